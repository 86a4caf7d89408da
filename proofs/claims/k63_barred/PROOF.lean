import PyProof.Rows.All
import Wide.All
import OpenK.AllK
import Wide.FinOn
import Lean
import PyProof.EqAt
import PyProof.EqKinds
import PyProof.TupleCall
import PyProof.NeKinds
import PySem.Challenge.RW_hall_k63_barred
set_option Elab.async false
set_option linter.all false
set_option maxRecDepth 100000
set_option maxHeartbeats 4000000
abbrev bf:=PySem.Value ->PySem.Shared ->Prop
abbrev aV:=List (PySem.Addr×PySem.Obj)
section
open PySem PySem.Spec PyProof.Rows
abbrev z6:=@wpAny_bind
abbrev z7:=@wpAny_pure
abbrev z8:=@Heap.get?_push_of_some
abbrev z9:=@Heap.get?_push_size
abbrev zZ:=@List.getElem?_eq_getElem
abbrev zY:=@List.mem_cons_self
abbrev zX:=@List.mem_cons_of_mem
abbrev zW:=@List.getElem?_eq_some_iff
abbrev zV:=@List.mem_cons
abbrev zU:=@List.mem_append
abbrev zT:=@List.mem_singleton
abbrev zR:=@List.mem_append_right
abbrev zQ:=@List.mem_append_left
abbrev zP:=@Nat.le_trans
abbrev zO:=@Nat.le_refl
abbrev zN:=@Nat.lt_of_lt_of_le
abbrev zM:=@Nat.ne_of_lt
abbrev zL:=@Bool.false_ne_true
abbrev zK:=@Heap.lt_size
abbrev zJ:=@Option.some.inj
abbrev zH:=@List.getElem_mem
abbrev zG:=@Nat.lt_irrefl
end
namespace L2
open PySem PySem.Spec PyProof.Rows
abbrev Key:=Sum Int Str
def uT:Key ->Value ->Bool
 | .inl k,v=>Value.isInt k v
 | .inr x,v=>Value.isStrOf x v
def HN(w:World):Key ->Int
 | .inl k=>hashInt k
 | .inr x=>hashStr w x
theorem tV:∀{k:Key} {v:Value},uT k v=true ->(∃i t,k=Sum.inl i/\v=Value.int i t)\/ (∃x t,k=Sum.inr x/\v=Value.str x t)
 | .inl i,v,h=>by
  obtain⟨t,e⟩:=Value.isInt_shape (k:=i) (v:=v) h;exact .inl ⟨i,t,rfl,e⟩
 | .inr x,v,h=>by
  obtain⟨t,e⟩:=Value.isStrOf_shape (x:=x) (v:=v) h;exact .inr ⟨x,t,rfl,e⟩
theorem Yl(a b:Int):decide ((Sum.inl a:Key)=Sum.inl b)=(a==b):=by
 by_cases e:a=b
 ·subst e;simp
 ·have h:¬(Sum.inl a:Key)=Sum.inl b:=fun q=>e (Sum.inl.inj q);rw[decide_eq_false h];exact(beq_eq_false_iff_ne.mpr e).symm
theorem Ym(a b:Str):decide ((Sum.inr a:Key)=Sum.inr b)=decide (a=b):=by
 by_cases e:a=b
 ·subst e;simp
 ·have h:¬(Sum.inr a:Key)=Sum.inr b:=fun q=>e (Sum.inr.inj q);rw[decide_eq_false h,decide_eq_false e]
theorem Yn(a:Int)(b:Str):decide ((Sum.inl a:Key)=Sum.inr b)=false:=decide_eq_false (fun q=>nomatch q)
theorem Yo(a:Str)(b:Int):decide ((Sum.inr a:Key)=Sum.inl b)=false:=decide_eq_false (fun q=>nomatch q)
def HS(prog:Program)(w:World):PySem.KeyKind prog w Key where
 is:=uT
 hash:=HN w
 inj:=fun v a b ha hb=>by
  rcases tV ha with ⟨i,t,rfl,rfl⟩ | ⟨x,t,rfl,rfl⟩
  ·rcases tV hb with ⟨j,u,rfl,e⟩ | ⟨y,u,rfl,e⟩
   ·injection e with e1 _;rw[e1]
   ·exact nomatch e
  ·rcases tV hb with ⟨j,u,rfl,e⟩ | ⟨y,u,rfl,e⟩
   ·exact nomatch e
   ·injection e with e1 _;rw[e1]
 byValue:=fun k v h=>by
  rcases tV h with ⟨i,t,rfl,rfl⟩ | ⟨x,t,rfl,rfl⟩<;>rfl
 pyHash:=fun hv h=>by
  rcases tV hv with ⟨i,t,rfl,rfl⟩ | ⟨x,t,rfl,rfl⟩
  ·exact wpAny_pyHash_int h
  ·exact wpAny_pyHash_str h
 eqBool:=fun hu hv h=>by
  rcases tV hu with ⟨i,t,rfl,rfl⟩ | ⟨x,t,rfl,rfl⟩
  ·rcases tV hv with ⟨j,u,rfl,rfl⟩ | ⟨y,u,rfl,rfl⟩
   ·rw[Yl] at h;exact wpAny_eqBool_int h
   ·rw[Yn] at h;exact SeqAt.EqAt.int_str i t y u _ _ _ _ h
  ·rcases tV hv with ⟨j,u,rfl,rfl⟩ | ⟨y,u,rfl,rfl⟩
   ·rw[Yo] at h;exact SeqAt.EqAt.str_int x t j u _ _ _ _ h
   ·rw[Ym] at h;exact wpAny_eqBool_str h
 «strs»:=fun k x t v h=>by
  rcases tV h with ⟨i,u,rfl,e⟩ | ⟨y,u,rfl,e⟩
  ·exact nomatch e
  ·injection e with e1 _;subst e1;cases v<;>rfl
inductive V where
 | non | bl (b:Bool) | int (i:Int) | str (x:Str) | uU (b:Array UInt8) | flt (b:UInt64) | ref (a:Addr) | ty (n:String)
 deriving DecidableEq
def RelV:V ->Value ->Prop
 | .non,u=>u=Value.none
 | .bl b,u=>u=Value.bool b
 | .int i,u=>∃t,u=Value.int i t
 | .str x,u=>∃t,u=Value.str x t
 | .uU b,u=>∃t,u=Value.bytes b t
 | .flt b,u=>∃t,u=Value.float b t
 | .ref a,u=>u=Value.ref a
 | .ty n,u=>u=Value.type n
abbrev Vals:List V ->List Value ->Prop:=Paired RelV
theorem Vals.length{xs:List V}{us:List Value}(r:Vals xs us):xs.length=us.length:=Paired.length r
theorem Vals.get:∀{xs:List V} {us:List Value} {i:Nat} {x:V},Vals xs us ->xs[i]?=some x ->∃u,us[i]?=some u/\RelV x u
 | _,_,_,_,.nil,e=>by simp at e
 | _,_,0,_,.cons r _,e=>by simp at e;subst e;exact⟨_,rfl,r⟩
 | _,_,i+1,x,.cons _ t,e=>by
  obtain⟨u,h1,h2⟩:=Vals.get (i:=i) (x:=x) t (by simpa using e)
  exact⟨u,by simpa using h1,h2⟩
theorem Vals.set{x:V}{u:Value}(r:RelV x u):∀{xs:List V} {us:List Value} (i:Nat),Vals xs us ->Vals (xs.set i x) (us.set i u)
 | _,_,_,.nil=> .nil
 | _,_,0,.cons _ t=> .cons r t
 | _,_,i+1,.cons q t=> .cons q (Vals.set r i t)
theorem Vals.append:∀{xs ys:List V} {us ws:List Value},Vals xs us ->Vals ys ws ->Vals (xs++ys) (us++ws)
 | _,_,_,_,.nil,s=>s
 | _,_,_,_,.cons r t,s=> .cons r (Vals.append t s)
theorem Vals.take:∀{xs:List V} {us:List Value} (n:Nat),Vals xs us ->Vals (xs.take n) (us.take n)
 | _,_,0,_=> .nil
 | _,_,_+1,.nil=> .nil
 | _,_,n+1,.cons r t=> .cons r (Vals.take n t)
theorem Vals.drop:∀{xs:List V} {us:List Value} (n:Nat),Vals xs us ->Vals (xs.drop n) (us.drop n)
 | _,_,0,r=>r
 | _,_,_+1,.nil=> .nil
 | _,_,n+1,.cons _ t=>Vals.drop n t
def lW:Option V ->Option Value ->Prop
 | some v,some u=>RelV v u
 | none,none=>True
 | _,_=>False
def KV{κ:Type}:List (κ×V) ->List (κ×Value) ->Prop:=Paired fun(p:κ×V) (q:κ×Value)=>p.1=q.1/\RelV p.2 q.2
def kV:Key ->V
 | .inl i=> .int i
 | .inr x=> .str x
inductive HO where
 | lst (xs:List V)
 | tup (xs:List V)
 | dK (kvs:List (Key×V)) | dT (kvs:List (List Key×V))
 | set (S:Int ->Bool) (n:Nat)
 | ins (C dx:Addr) (fs:List (Str×V))
 | own (x:Addr)
 | xd (fs:List (Str×V))
 | met (f x:Addr)
 | rng (lo hi:Int)
 | frz (o:Obj) (u:HO)
 | uV (ps:Array Value)
 | ext (φ:Heap ->Prop)
abbrev Hp:=Addr ->Option HO
def upd(H:Hp)(a:Addr)(o:HO):Hp:=fun b=>if b=a then some o else H b
theorem iu{H:Hp}{a:Addr}{o:HO}:upd H a o a=some o:=by unfold upd;rw[if_pos rfl]
theorem bC{H:Hp}{a b:Addr}{o:HO}(h:b≠a):upd H a o b=H b:=by unfold upd;rw[if_neg h]
theorem eO{H:Hp}{a b:Addr}{o:HO}(h:H a=some o)(h' :H b=none):a≠b:=by
 intro e;subst e;rw[h] at h';cases h'
section
variable(P:Program)(w:World)
def aX(H:Hp)(h:Heap)(a:Addr):HO ->Prop
 | .lst xs=>xs.length<=sizeLine/\∃(its:List Value) (n:Nat),Vals xs its/\h.get? a=some {cls:= .type "list",data:= .seq its.toArray n}
 | .tup xs=>xs.length<=sizeLine/\∃its:List Value,Vals xs its/\IsTup h a its.toArray
 | .dK kvs=>kvs.length<=sizeLine/\ (a==sysModules)=false/\∃vs,KV kvs vs/\h.DictOf (HS P w) a vs
 | .dT kvs=>kvs.length<=sizeLine/\ (a==sysModules)=false/\∃xs:List (List Key×Addr×Value),
   Paired (fun(p:List Key×V) (q:List Key×Addr×Value)=>p.1=q.1/\H q.2.1=some (.tup (p.1.map kV))/\RelV p.2 q.2.2) kvs xs/\
   ∃o es ep,h.get? a=some o/\o.ExactDict/\o.data= .dict es ep/\es.toList=xs.map (entryOfKey (tupleKind (HS P w)))/\ (xs.map (·.1)).Nodup
 | .set S n=>h.SetOf (intKind P w) a S n
 | .ins C dx fs=>H dx=some (.own a)/\fs.length<=1000/\dx≠a/\h.get? a=some (W.instObj C dx)/\
   ∃mA,h.Ns1 dx mA/\ (∀f,lW (fs.lookup f) (mA f))/\PySem.Within mA (fs.map (·.1))
 | .own _=>∃o,h.get? a=some o
 | .xd fs=>∃mA,h.Ns1 a mA/\∀f,lW (fs.lookup f) (mA f)
 | .rng lo hi=>∃t u v,h.get? a=some {cls:= .type "range",data:= .fields #[.int lo t,.int hi u,.int 1 v]}
 | .frz o u=>h.get? a=some o/\aX H h a u
 | .uV ps=>h.get? a=some {cls:= .none,data:= .fields ps}
 | .met f x=>h.get? a=some (W.methodObj (.ref f) (.ref x))
 | .ext φ=>φ h/\ (∃o,h.get? a=some o)/\∀h1 h2:Heap,φ h1 ->(∀o,h1.get? a=some o ->h2.get? a=some o) ->φ h2
def gY(H:Hp)(h:Heap):Prop:=∀a o,H a=some o ->aX P w H h a o
end
section
variable{P:Program}{w:World}{H H' :Hp}{h h' :Heap}{a:Addr}{o:HO}
theorem aX.lt(x:aX P w H h a o):a<h.objs.size:=by
 cases o with
 | lst xs=>obtain⟨_,_,_,_,e⟩:=x;exact zK e
 | tup xs=>obtain⟨_,_,_,p⟩:=x;exact p.lt
 | dK kvs=>obtain⟨_,_,_,_,o,_,_,e,_⟩:=x;exact zK e
 | dT kvs=>obtain⟨_,_,_,_,o,_,_,e,_⟩:=x;exact zK e
 | set S n=>obtain⟨o,_,_,_,e,_⟩:=x;exact zK e
 | ins C dx fs=>obtain⟨_,_,_,e,_⟩:=x;exact zK e
 | own y=>obtain⟨_,e⟩:=x;exact zK e
 | xd fs=>obtain⟨_,⟨_,_,_,e,_⟩,_⟩:=x;exact zK e
 | rng lo hi=>obtain⟨_,_,_,e⟩:=x;exact zK e
 | frz ob u=>obtain⟨e,_⟩:=x;exact zK e
 | uV ps=>exact zK (show h.get? a=some _ from x)
 | met f y=>exact zK (show h.get? a=some _ from x)
 | ext φ=>obtain⟨_,⟨_,e⟩,_⟩:=x;exact zK e
theorem Paired.mapP{α β:Type}{F G:α ->β ->Prop}:∀{l₁:List α} {l₂:List β},Paired F l₁ l₂ ->(∀a b,F a b ->G a b) ->Paired G l₁ l₂
 | _,_,.nil,_=> .nil
 | _,_,.cons r t,f=> .cons (f _ _ r) (Paired.mapP t f)
theorem aX.stay(x:aX P w H h a o)(k:∀b u,(b=a\/H b=some (.own a)) ->h.get? b=some u ->h'.get? b=some u)
  (ho:∀b,H b=some (.own a) ->H' b=some (.own a)) (ht:∀b xs,H b=some (.tup xs) ->H' b=some (.tup xs)):aX P w H' h' a o:=by
 induction o with
 | lst xs=>obtain⟨z,its,n,r,e⟩:=x;exact⟨z,its,n,r,k _ _ (.inl rfl) e⟩
 | tup xs=>obtain⟨z,its,r,ob,e,c⟩:=x;exact⟨z,its,r,ob,k _ _ (.inl rfl) e,c⟩
 | dK kvs=>obtain⟨z,y,vs,r,ob,es,ep,e,c⟩:=x;exact⟨z,y,vs,r,ob,es,ep,k _ _ (.inl rfl) e,c⟩
 | dT kvs=>
  obtain⟨z,y,xs,r,ob,es,ep,e,c⟩:=x;exact⟨z,y,xs,Paired.mapP r fun p q z=>⟨z.1,ht _ _ z.2.1,z.2.2⟩,ob,es,ep,k _ _ (.inl rfl) e,c⟩
 | set S n=>obtain⟨ob,es,ep,t,e,c⟩:=x;exact⟨ob,es,ep,t,k _ _ (.inl rfl) e,c⟩
 | ins C dx fs=>
  obtain⟨d,z,ne,e,mA,⟨od,es,ep,e2,c⟩,r⟩:=x;exact⟨ho _ d,z,ne,k _ _ (.inl rfl) e,mA,⟨od,es,ep,k _ _ (.inr d) e2,c⟩,r⟩
 | own y=>obtain⟨ob,e⟩:=x;exact⟨ob,k _ _ (.inl rfl) e⟩
 | xd fs=>obtain⟨mA,⟨od,es,ep,e,c⟩,r⟩:=x;exact⟨mA,⟨od,es,ep,k _ _ (.inl rfl) e,c⟩,r⟩
 | rng lo hi=>obtain⟨t,u,v,e⟩:=x;exact⟨t,u,v,k _ _ (.inl rfl) e⟩
 | frz ob u ih=>obtain⟨e,q⟩:=x;exact⟨k _ _ (.inl rfl) e,ih q⟩
 | uV ps=>
  have e:h.get? a=some {cls:= .none,data:= .fields ps}:=x;show h'.get? a=some {cls:= .none,data:= .fields ps};exact k a _ (.inl rfl) e
 | met f y=>
  have e:h.get? a=some (W.methodObj (.ref f) (.ref y)):=x;show h'.get? a=some (W.methodObj (.ref f) (.ref y));exact k a _ (.inl rfl) e
 | ext φ=>obtain⟨p,⟨o,e⟩,st⟩:=x;exact⟨st _ _ p fun o q=>k _ _ (.inl rfl) q,⟨o,k _ _ (.inl rfl) e⟩,st⟩
theorem gY.lt(x:gY P w H h)(e:H a=some o):a<h.objs.size:=(x a o e).lt
theorem gY.fresh(x:gY P w H h)(e:h.objs.size<=a):H a=none:=by
 cases q:H a with
 | none=>rfl
 | some u=>exact absurd (zN (x.lt q) e) (zG _)
theorem gY.kept(x:gY P w H h)(k:∀b u,h.get? b=some u ->h'.get? b=some u):gY P w H h' :=fun a o e=>
 (x a o e).stay (fun b u _ q=>k b u q) (fun _ q=>q) fun _ _ q=>q
theorem gY.laid(x:gY P w H h)(k:∀b u,h.get? b=some u ->h'.get? b=some u)(hp:h.objs.size<=a)(new:aX P w (upd H a o) h' a o):gY P w (upd H a o) h' :=fun b u e=>by
 have hn:=x.fresh hp;by_cases hb:b=a
 ·subst hb;rw[iu] at e;cases e;exact new
 ·rw[bC hb] at e;exact(x b u e).stay (fun c v _ q=>k c v q) (fun c q=>by rw[bC (eO q hn)];exact q) fun c xs q=>by rw[bC (eO q hn)];exact q
end
def Rd(H:Hp)(a:Addr)(u:HO):Prop:=H a=some u\/∃o,H a=some (.frz o u)
theorem Rd.ok{P:Program}{w:World}{H:Hp}{h:Heap}{a:Addr}{u:HO}(r:Rd H a u)(x:gY P w H h):aX P w H h a u:=by
 rcases r with r | ⟨o,r⟩
 ·exact x a u r
 ·obtain⟨_,q⟩:=x a _ r;exact q
def En:Option HO ->Prop
 | some (.lst _)=>True
 | some (.dK _)=>True
 | some (.dT _)=>True
 | some (.set _ _)=>True
 | some (.ins _ _ _)=>True
 | some (.ext _)=>True
 | _=>False
section
variable{P:Program}{w:World}{H:Hp}{h h' :Heap}{x e:Addr}{o' :HO}
theorem gY.write(ok:gY P w H h)(mu:En (H x))(he:e=x\/H e=some (.own x))(k:∀b u,b≠e ->h.get? b=some u ->h'.get? b=some u)(heo:∃u,h'.get? e=some u)
  (new:aX P w (upd H x o') h' x o'):gY P w (upd H x o') h' :=fun b u q=>by
 have zj:∀c y,H c=some (.own y) ->c≠x:=fun c y r z=>by subst z;rw[r] at mu;exact mu
 have HW:∀c xs,H c=some (.tup xs) ->c≠x:=fun c xs r z=>by subst z;rw[r] at mu;exact mu
 by_cases hb:b=x
 ·subst hb;rw[iu] at q;cases q;exact new
 ·rw[bC hb] at q;by_cases hbe:b=e
  ·have q' :H b=some (.own x):=by
    rcases he with z | z
    ·exact absurd (hbe.trans z) hb
    ·rw[hbe];exact z
   rw[q] at q';cases q';obtain⟨v,hv⟩:=heo;exact⟨v,by rw[hbe];exact hv⟩
  ·refine(ok b u q).stay (fun c v hc r=>k c v ?_ r) (fun c r=>by rw[bC (zj c b r)];exact r) fun c xs r=>by rw[bC (HW c xs r)];exact r
   rcases hc with rfl | hc
   ·exact hbe
   ·rintro rfl;rcases he with z | z
    ·exact zj c b hc z
    ·rw[hc] at z;cases z;exact hb rfl
end
structure Un (fs ex:List Addr) (H H' :Hp) (h h' :Heap):Prop where
 keep:∀b o,h.get? b=some o ->H b=none ->b∉fs ->b∉ex ->h'.get? b=some o
 slot:∀b o,h.get? b=some o ->H b=none ->b∈fs ->b∉ex ->∃sl,h'.get? b=some {o with slots:=sl}
 free:∀b o,h.get? b=some o ->H b=none ->b∉ex ->H' b=none
 there:∀b o,h.get? b=some o ->b∉ex ->∃o',h'.get? b=some o'
 tups:∀b xs,H b=some (.tup xs) ->H' b=some (.tup xs)
 fW:∀b o u,H b=some (.frz o u) ->H' b=some (.frz o u)
 gG:∀b ps,H b=some (.uV ps) ->∃more,H' b=some (.uV (ps++more))
section
variable{fs fs' ex ex' :List Addr}{H H1 H2:Hp}{h h1 h2 h' :Heap}{a x e:Addr}{o:HO}
theorem Un.any(u:Un fs ex H H1 h h1){b:Addr}{ob:Obj}(q:h.get? b=some ob)(n:H b=none)(hx:b∉ex):∃sl,h1.get? b=some {ob with slots:=sl}:=by
 by_cases hb:b∈fs
 ·exact u.slot b ob q n hb hx
 ·exact⟨ob.slots,u.keep b ob q n hb hx⟩
theorem Un.trans(a:Un fs ex H H1 h h1)(b:Un fs ex H1 H2 h1 h2):Un fs ex H H2 h h2 where
 keep:=fun c ob q n hc hx=>b.keep c ob (a.keep c ob q n hc hx) (a.free c ob q n hx) hc hx
 slot:=fun c ob q n hc hx=>by
  obtain⟨sl,e1⟩:=a.slot c ob q n hc hx;obtain⟨sl',e2⟩:=b.slot c _ e1 (a.free c ob q n hx) hc hx;exact⟨sl',e2⟩
 free:=fun c ob q n hx=>by
  obtain⟨o',e1⟩:=a.there c ob q hx;exact b.free c o' e1 (a.free c ob q n hx) hx
 there:=fun c ob q hx=>by
  obtain⟨o',e1⟩:=a.there c ob q hx;exact b.there c o' e1 hx
 tups:=fun c xs q=>b.tups c xs (a.tups c xs q)
 fW:=fun c ob xs q=>b.fW c ob xs (a.fW c ob xs q)
 gG:=fun c ps q=>by
  obtain⟨m1,e1⟩:=a.gG c ps q;obtain⟨m2,e2⟩:=b.gG c _ e1;exact⟨m1++m2,by rw[e2,Array.append_assoc]⟩
theorem Un.kept(k:∀b u,h.get? b=some u ->h'.get? b=some u):Un fs ex H H h h' :=
 ⟨fun b ob q _ _ _=>k b ob q,fun b ob q _ _ _=>⟨ob.slots,k b ob q⟩,fun _ _ _ n _=>n,fun b ob q _=>⟨ob,k b ob q⟩,fun _ _ q=>q,fun _ _ _ q=>q,fun _ ps q=>⟨#[],by rw[q];simp⟩⟩
theorem Un.refl:Un fs ex H H h h:=Un.kept fun _ _ q=>q
theorem Un.laid(k:∀b u,h.get? b=some u ->h'.get? b=some u)(hp:h.objs.size<=a)(hn:H a=none):Un fs ex H (upd H a o) h h' where
 keep:=fun b u q _ _ _=>k b u q
 slot:=fun b u q _ _ _=>⟨u.slots,k b u q⟩
 free:=fun b u q n _=>by rw[bC (Nat.ne_of_lt (Nat.lt_of_lt_of_le (Heap.lt_size q) hp))];exact n
 there:=fun b u q _=>⟨u,k b u q⟩
 tups:=fun b xs q=>by rw[bC (eO q hn)];exact q
 fW:=fun b u xs q=>by rw[bC (eO q hn)];exact q
 gG:=fun b ps q=>⟨#[],by rw[bC (eO q hn),q];simp⟩
theorem Un.write(mu:En (H x))(he:e=x\/H e=some (.own x))(k:∀b u,b≠e ->h.get? b=some u ->h'.get? b=some u)(heo:∃u,h'.get? e=some u):Un fs ex H (upd H x o) h h' :=by
 have hx:∀b,H b=none ->b≠x:=fun b n z=>by subst z;rw[n] at mu;exact mu
 have hb:∀b,H b=none ->b≠e:=fun b n z=>by
  subst z;rcases he with r | r
  ·exact hx b n r
  ·rw[n] at r;cases r
 have hm:∀b u,H b=some u ->¬En (some u) ->b≠x:=fun b u q nm z=>by subst z;rw[q] at mu;exact nm mu
 refine⟨fun b u q n _ _=>k b u (hb b n) q,fun b u q n _ _=>⟨u.slots,k b u (hb b n) q⟩,fun b u q n _=>by rw[bC (hx b n)];exact n,fun b u q _=> ?_,
  fun b xs q=>by rw[bC (hm b _ q fun z=>z)];exact q,fun b u xs q=>by rw[bC (hm b _ q fun z=>z)];exact q,fun b ps q=>⟨#[],by rw[bC (hm b _ q fun z=>z),q];simp⟩⟩
 by_cases hbe:b=e
 ·subst hbe;exact heo
 ·exact⟨u,k b u hbe q⟩
end
def nF(h:Heap)(H:Hp):List Addr:=(List.range h.objs.size).filter fun a=>(H a).isSome
def lC(h:Heap)(H:Hp):Heap:=W.hideAll h (nF h H)
theorem Yp(h:Heap)(H:Hp):(lC h H).objs.size=h.objs.size:=W.hideAll_size _ _
theorem Yq{h:Heap}{H:Hp}{b:Addr}{o:Obj}(e:h.get? b=some o)(n:H b=none):(lC h H).get? b=some o:=
 W.hideAll_get _ e fun hm=>by
  have q:(H b).isSome=true:=(List.mem_filter.mp hm).2;rw[n] at q;simp at q
theorem Yr{h:Heap}{H:Hp}{b:Addr}{o:Obj}(e:(lC h H).get? b=some o):h.get? b=some o/\H b=none:=by
 have e' :h.get? b=some o:=W.of_hideAll (nF h H) e;refine⟨e',?_⟩;cases q:H b with
 | none=>rfl
 | some x=>
  have hm:b∈nF h H:=List.mem_filter.mpr ⟨List.mem_range.mpr (zK e'),by simp [q]⟩
  have z:(lC h H).get? b=none:=W.hideAll_none (nF h H) hm;rw[z] at e;cases e
def Ys(g h:Heap)(L:Addr):aV:=(List.range h.objs.size).filterMap fun a=>if a=L\/ (g.get? a).isSome=true then none else(h.get? a).map fun o=>(a,o)
def rest(g h:Heap)(L d:Addr):aV:=(Ys g h L).filter fun p=>decide (p.1≠d)
structure Mod (K:W.Frag) (mg:Str ->Option Value) (base:Heap):Prop where
 zm:K.In base
 glob:base.Ns mainGlobals mg
 blt:∃mb,base.Ns builtinsNs mb/\∀x:Str,x≠ "__name__" ->mb x=bootBuiltins x
 nolimit:base.NoLimit
structure Cx where
 prog:Program
 w:World
 K:W.Frag
 mg:Str ->Option Value
 base:Heap
 A:Around
 N:List Str
 s₀:Shared
 H₀:Hp
 env:Env
 outer:List Env
 stack:List Env
 ex:List Addr
 fn:Str ->Bool
 calm:Bool
 pn:aV
 xe:bf
def frs(l:List Env):List Addr:=l.filterMap (·.frame)
abbrev Cx.fs(X:Cx):List Addr:=frs X.outer
def nP(sc:Scope)(x:Str):Prop:=sc.names.lookup x=some .local\/sc.names.lookup x=some .cell\/sc.names.lookup x=some .free
def Loc(sc:Scope)(x:Str):Prop:=sc.names.lookup x=some .local\/sc.names.lookup x=some .cell
def Look(env:Env)(h:Heap)(m:Str ->Option Value)(x:Str)(u:Value):Prop:=
 (env.kindOf x=some .local/\m x=some u)\/ ((env.kindOf x=some .cell\/env.kindOf x=some .free)/\∃c,env.cells.lookup x=some c/\h.IsCell c (some u))
structure Cx.Ok (X:Cx):Prop where
 mod:Mod X.K X.mg X.base
 kind:X.env.scope.kind= .function
 glob:X.env.globals=mainGlobals
 blt:X.env.builtins=builtinsNs
 above:X.s₀.heap.objs.size<=X.env.locals
 inj:∀x y c,X.env.cells.lookup x=some c ->X.env.cells.lookup y=some c ->x=y
 has:∀x,(X.env.kindOf x=some .cell\/X.env.kindOf x=some .free) ->∃c,X.env.cells.lookup x=some c
 cab:∀x c,X.fn x=true ->X.env.cells.lookup x=some c ->X.s₀.heap.objs.size<=c
 hd:X.calm=true ->X.A.handled=none
 frames:X.A.frames=some X.stack
 stk:X.stack=X.outer\/ (X.stack=X.env::X.outer/\X.env.frame=some X.env.locals)
 Eo:∀b∈X.ex,b≠X.env.locals/\∀x c,X.env.cells.lookup x=some c ->c≠b
 bs:∀b o,X.base.get? b=some o ->X.s₀.heap.get? b=some o/\X.H₀ b=none
 tW:X.base.objs.size<=X.s₀.heap.objs.size
 qu:∀b o,X.base.get? b=some o ->b∉X.ex
 qw:∀b∈X.ex,b∉X.fs
 funs:X.s₀.heap.FunFrames X.base X.outer
 uW:∀b∈X.fs,X.H₀ b=none
structure Inv (X:Cx) (pins:aV) (σ:List (Option V)) (H:Hp) (s:Shared):Prop where
 ok:X.Ok
 os:s.os=X.s₀.os
 bare:AllBare s.gens
 base:Un X.fs X.ex X.H₀ H X.s₀.heap s.heap
 loc:∃m,s.heap.Ns X.env.locals m/\∀(i:Nat) (x:Str) (v:V),X.N[i]?=some x ->σ[i]?=some (some v) ->nP X.env.scope x ->∃u,RelV v u/\Look X.env s.heap m x u
 cell:∀x c,X.env.cells.lookup x=some c ->∃v,s.heap.IsCell c v
 free:H X.env.locals=none
 freeC:∀x c,X.env.cells.lookup x=some c ->H c=none
 pin:∀p∈X.pn++pins,s.heap.get? p.1=some p.2/\H p.1=none/\p.1≠X.env.locals/\p.1∉X.fs/\∀v,p.2.data≠ .cell v
 hok:gY X.prog X.w H s.heap
 len:σ.length=X.N.length
section
variable{X:Cx}{pins:aV}{σ:List (Option V)}{H H' :Hp}{s:Shared}{h' :Heap}
theorem Cx.Ok.nofr(ok:X.Ok){b:Addr}{o:Obj}(e:X.base.get? b=some o):b∉X.fs:=fun hb=>by
 have:=(ok.funs.mem hb).1;rw[e] at this;cases this
theorem Inv.bs(I:Inv X pins σ H s):∀b o,X.base.get? b=some o ->s.heap.get? b=some o/\H b=none:=fun b o e=>
 ⟨I.base.keep b o (I.ok.bs b o e).1 (I.ok.bs b o e).2 (I.ok.nofr e) (I.ok.qu b o e),I.base.free b o (I.ok.bs b o e).1 (I.ok.bs b o e).2 (I.ok.qu b o e)⟩
theorem Inv.bk(I:Inv X pins σ H s):∀b o,X.base.get? b=some o ->s.heap.get? b=some o:=fun b o e=>(I.bs b o e).1
theorem Inv.mod(I:Inv X pins σ H s):Mod X.K X.mg X.base:=I.ok.mod
theorem Inv.kIn(I:Inv X pins σ H s):X.K.In s.heap:=I.ok.mod.zm.keeps I.bk
theorem Inv.lt(I:Inv X pins σ H s):X.env.locals<s.heap.objs.size:=let ⟨_,hn,_⟩:=I.loc;hn.lt
theorem Inv.sz(I:Inv X pins σ H s):X.s₀.heap.objs.size<=s.heap.objs.size:=zP I.ok.above (Nat.le_of_lt I.lt)
theorem Inv.nofs(I:Inv X pins σ H s){a:Addr}(h:s.heap.objs.size<=a):a∉X.fs:=fun hb=>by
 obtain⟨_,o,ho,_⟩:=I.ok.funs.mem hb;exact absurd (zN (zK ho) (zP I.sz h)) (zG _)
theorem Inv.cne(I:Inv X pins σ H s):∀x c,X.env.cells.lookup x=some c ->c≠X.env.locals:=fun x c e z=>by
 obtain⟨v,o,ho,hd⟩:=I.cell x c e;obtain⟨m,⟨o',es,ep,ho',hd',_⟩,_⟩:=I.loc;rw[z,ho'] at ho;cases ho;rw[hd'] at hd;cases hd
theorem Inv.funs(I:Inv X pins σ H s):s.heap.FunFrames X.base X.outer:=by
 have all:∀(l:List Env),(∀b∈frs l,b∈X.fs) ->X.s₀.heap.FunFrames X.base l ->s.heap.FunFrames X.base l:=by
  intro l;induction l with
  | nil=>intro _ _;trivial
  | cons env r ih=>
   intro hs hl;obtain⟨hk,⟨L,o,hf,hn,ho,hd⟩,hr⟩:=hl;have hL:L∈X.fs:=hs L (by unfold frs;rw[List.filterMap_cons,hf];exact zY)
   obtain⟨sl,e⟩:=I.base.slot L o ho (I.ok.uW L hL) hL fun z=>I.ok.qw L z hL;exact⟨hk,⟨L,_,hf,hn,e,hd⟩,ih (fun b hb=>hs b (by unfold frs;rw[List.filterMap_cons,hf];exact zX _ hb)) hr⟩
 exact all X.outer (fun _ hb=>hb) I.ok.funs
theorem Inv.stack(I:Inv X pins σ H s):s.heap.FunFrames X.base X.stack:=by
 rcases I.ok.stk with e | ⟨e,hf⟩
 ·rw[e];exact I.funs
 ·rw[e];obtain⟨m,hn,_⟩:=I.loc;refine .cons (by rw[I.ok.kind];decide) hf hn ?_ I.funs
  exact Heap.get?_none_of_le (zP I.ok.tW I.ok.above)
theorem Inv.stkSub(I:Inv X pins σ H s):∀b∈frs X.stack,b∈X.env.locals::X.fs:=fun b hb=>by
 rcases I.ok.stk with e | ⟨e,hf⟩
 ·rw[e] at hb;exact zX _ hb
 ·rw[e] at hb;unfold frs at hb;rw[List.filterMap_cons,hf] at hb;exact hb
theorem Inv.stkFree(I:Inv X pins σ H s):∀b∈frs X.stack,H b=none:=fun b hb=>by
 rcases zV.mp (I.stkSub b hb) with e | hb
 ·rw[e];exact I.free
 ·obtain⟨_,o,ho,_⟩:=I.ok.funs.mem hb;exact I.base.free b o ho (I.ok.uW b hb) fun z=>I.ok.qw b z hb
theorem Inv.step{g' :Array GenState}{t' :Nat}{d' :Drawn}{ch:List Addr}(I:Inv X pins σ H s)
  (hch:∀b∈ch,(b∈X.ex\/X.s₀.heap.objs.size<=b)/\b≠X.env.locals/\ (∀x c,X.env.cells.lookup x=some c ->c≠b)/\∀p∈X.pn++pins,p.1≠b)
  (keep:∀b o,b≠X.env.locals ->b∉X.fs ->b∉ch ->s.heap.get? b=some o ->H b=none ->h'.get? b=some o)
  (slot:∀b o,b≠X.env.locals ->b∈X.fs ->b∉ch ->s.heap.get? b=some o ->H b=none ->∃sl,h'.get? b=some {o with slots:=sl}) (free:∀b o,b∉ch ->s.heap.get? b=some o ->H b=none ->H' b=none)
  (there:∀b o,b∉ch ->s.heap.get? b=some o ->∃o',h'.get? b=some o')
  (tups:∀b xs,H b=some (.tup xs) ->H' b=some (.tup xs)) (fW:∀b o u,H b=some (.frz o u) ->H' b=some (.frz o u)) (gG:∀b ps,H b=some (.uV ps) ->∃more,H' b=some (.uV (ps++more)))
  (ns:∀m,s.heap.Ns X.env.locals m ->h'.Ns X.env.locals m) (hok:gY X.prog X.w H' h') (hg:AllBare g'):
  Inv X pins σ H' {s with heap:=h',gens:=g',drawn:=d',toks:=t'}:=by
 have Qn:∀b o,X.s₀.heap.get? b=some o ->b≠X.env.locals:=fun b o e=>zM (zN (zK e) I.ok.above);have Ep:∀b o,X.s₀.heap.get? b=some o ->b∉X.ex ->b∉ch:=fun b o e hx hb=>by
  rcases(hch b hb).1 with z | z
  ·exact hx z
  ·exact absurd (zN (zK e) z) (zG _)
 have cellK:∀x c,X.env.cells.lookup x=some c ->∀v,s.heap.IsCell c v ->h'.IsCell c v:=fun x c e v ⟨o,ho,hd⟩=>by
  have zp:c∉ch:=fun z=>(hch c z).2.2.1 x c e rfl;by_cases hc:c∈X.fs
  ·obtain⟨sl,q⟩:=slot c o (I.cne x c e) hc zp ho (I.freeC x c e);exact⟨_,q,hd⟩
  ·exact⟨o,keep c o (I.cne x c e) hc zp ho (I.freeC x c e),hd⟩
 refine⟨I.ok,I.os,hg,⟨fun b o e n hb hx=> ?_,fun b o e n hb hx=> ?_,fun b o e n hx=> ?_,fun b o e hx=> ?_,fun b xs e=>tups b xs (I.base.tups b xs e),fun b o xs e=>fW b o xs (I.base.fW b o xs e),fun b ps e=> ?_⟩,?_,fun x c e=> ?_,?_,fun x c e=> ?_,fun p hp=> ?_,hok,I.len⟩
 ·exact keep b o (Qn b o e) hb (Ep b o e hx) (I.base.keep b o e n hb hx) (I.base.free b o e n hx)
 ·obtain⟨sl,e1⟩:=I.base.slot b o e n hb hx;obtain⟨sl',e2⟩:=slot b _ (Qn b o e) hb (Ep b o e hx) e1 (I.base.free b o e n hx);exact⟨sl',e2⟩
 ·obtain⟨o',e1⟩:=I.base.there b o e hx;exact free b o' (Ep b o e hx) e1 (I.base.free b o e n hx)
 ·obtain⟨o',e1⟩:=I.base.there b o e hx;exact there b o' (Ep b o e hx) e1
 ·obtain⟨m1,e1⟩:=I.base.gG b ps e;obtain⟨m2,e2⟩:=gG b _ e1;exact⟨m1++m2,by rw[e2,Array.append_assoc]⟩
 ·obtain⟨m,hn,hl⟩:=I.loc;refine⟨m,ns m hn,fun i x v e1 e2 e3=> ?_⟩;obtain⟨u,r,l⟩:=hl i x v e1 e2 e3;refine⟨u,r,?_⟩;rcases l with l | ⟨k,c,e,z⟩
  ·exact .inl l
  ·exact .inr ⟨k,c,e,cellK x c e _ z⟩
 ·obtain⟨v,z⟩:=I.cell x c e;exact⟨v,cellK x c e v z⟩
 ·obtain⟨m,⟨o,_,_,ho,_⟩,_⟩:=I.loc;exact free _ o (fun z=>(hch _ z).2.1 rfl) ho I.free
 ·obtain⟨v,o,ho,hd⟩:=I.cell x c e;exact free c o (fun z=>(hch c z).2.2.1 x c e rfl) ho (I.freeC x c e)
 ·obtain⟨e,n,ne,nf,d⟩:=I.pin p hp;have zp:p.1∉ch:=fun z=>(hch p.1 z).2.2.2 p hp rfl;exact⟨keep p.1 p.2 ne nf zp e n,free p.1 p.2 zp e n,ne,nf,d⟩
theorem Inv.un{t' :Nat}(I:Inv X pins σ H s)(u:Un X.fs [] H H' s.heap h')(hok:gY X.prog X.w H' h'):Inv X pins σ H' {s with heap:=h',toks:=t'}:=by
 obtain⟨m,⟨o,es,ep,ho,r⟩,_⟩:=id I.loc;obtain⟨sl,hL⟩:=u.any ho I.free (by simp)
 exact I.step (g' :=s.gens) (d' :=s.drawn) (ch:= []) (fun _ z=>nomatch z) (fun b o _ hb _ e n=>u.keep b o e n hb (by simp)) (fun b o _ hb _ e n=>u.slot b o e n hb (by simp)) (fun b o _ e n=>u.free b o e n (by simp)) (fun b o _ e=>u.there b o e (by simp)) u.tups u.fW u.gG (fun m' hm=>by
  obtain⟨o',es',ep',ho',r'⟩:=hm;rw[ho] at ho';cases ho';exact⟨_,es',ep',hL,r'⟩) hok I.bare
theorem Inv.call{g' :Array GenState}{t' :Nat}{d' :Drawn}{ch:List Addr}(I:Inv X pins σ H s)(u:Un (frs X.stack) ch H H' s.heap h')(hok:gY X.prog X.w H' h')(hg:AllBare g')
  (hch:∀b∈ch,(b∈X.ex\/X.s₀.heap.objs.size<=b)/\b≠X.env.locals/\ (∀x c,X.env.cells.lookup x=some c ->c≠b)/\∀p∈X.pn++pins,p.1≠b):
  Inv X pins σ H' {s with heap:=h',gens:=g',drawn:=d',toks:=t'}:=by
 obtain⟨m,⟨o,es,ep,ho,r⟩,_⟩:=id I.loc;obtain⟨sl,hL⟩:=u.any ho I.free fun z=>(hch _ z).2.1 rfl;exact I.step (ch:=ch) hch (fun b o hL hb hc e n=>u.keep b o e n (fun z=>(zV.mp (I.stkSub b z)).elim hL hb) hc) (fun b o _ _ hc e n=>u.any e n hc) (fun b o hc e n=>u.free b o e n hc) (fun b o hc e=>u.there b o e hc) u.tups u.fW u.gG (fun m' hm=>by
  obtain⟨o',es',ep',ho',r'⟩:=hm;rw[ho] at ho';cases ho';exact⟨_,es',ep',hL,r'⟩) hok hg
theorem Inv.turned{t' :Nat}{it:Addr}(I:Inv X pins σ H s)(k:∀b o,b≠it ->s.heap.get? b=some o ->h'.get? b=some o)(hn:H it=none)(hL:it≠X.env.locals)
  (h1:it∈X.ex\/X.s₀.heap.objs.size<=it) (h2:∀x c,X.env.cells.lookup x=some c ->c≠it) (h3:∀p∈X.pn++pins,p.1≠it):Inv X pins σ H {s with heap:=h',toks:=t'}:=by
 have zq:∀b u,H b=some u ->b≠it:=fun b u e z=>by rw[z,hn] at e;cases e
 refine I.step (g' :=s.gens) (d' :=s.drawn) (ch:= [it]) (fun b hb=> ?_) (fun b o _ _ hc e _=>k b o (fun z=>hc (by simp [z])) e) (fun b o _ _ hc e _=>⟨o.slots,k b o (fun z=>hc (by simp [z])) e⟩) (fun _ _ _ _ n=>n)
  (fun b o hc e=>⟨o,k b o (fun z=>hc (by simp [z])) e⟩) (fun _ _ e=>e) (fun _ _ _ e=>e) (fun b ps e=>⟨#[],by rw[e];simp⟩) (fun m hm=> ?_) (fun b u e=> ?_) I.bare
 ·have e:b=it:=by simpa using hb
  subst e;exact⟨h1,hL,h2,h3⟩
 ·obtain⟨o,es,ep,ho,r⟩:=hm;exact⟨o,es,ep,k _ o (Ne.symm hL) ho,r⟩
 ·refine(I.hok b u e).stay (fun c v hc q=>k c v ?_ q) (fun _ q=>q) fun _ _ q=>q;rcases hc with z | z
  ·rw[z];exact zq b u e
  ·exact zq c _ z
theorem Inv.tok(I:Inv X pins σ H s)(t:Nat):Inv X pins σ H {s with toks:=t}:=I.un (h' :=s.heap) (t' :=t) Un.refl I.hok
theorem Inv.kept{t' :Nat}(I:Inv X pins σ H s)(k:∀b u,s.heap.get? b=some u ->h'.get? b=some u):Inv X pins σ H {s with heap:=h',toks:=t'}:=I.un (Un.kept k) (I.hok.kept k)
theorem Inv.laid{a:Addr}{o:HO}{t' :Nat}(I:Inv X pins σ H s)(k:∀b u,s.heap.get? b=some u ->h'.get? b=some u)(hp:s.heap.objs.size<=a)(new:aX X.prog X.w (upd H a o) h' a o):
  Inv X pins σ (upd H a o) {s with heap:=h',toks:=t'}:=I.un (Un.laid k hp (I.hok.fresh hp)) (I.hok.laid k hp new)
theorem Inv.write{x e:Addr}{o:HO}{t' :Nat}(I:Inv X pins σ H s)(mu:En (H x))(he:e=x\/H e=some (.own x))(k:∀b u,b≠e ->s.heap.get? b=some u ->h'.get? b=some u)(heo:∃u,h'.get? e=some u)
  (new:aX X.prog X.w (upd H x o) h' x o):Inv X pins σ (upd H x o) {s with heap:=h',toks:=t'}:=I.un (Un.write mu he k heo) (I.hok.write mu he k heo new)
theorem Inv.pins_of{je :aV}(I:Inv X pins σ H s)(h:∀p∈je,s.heap.get? p.1=some p.2/\H p.1=none/\p.1≠X.env.locals/\p.1∉X.fs/\∀v,p.2.data≠ .cell v):Inv X je σ H s:=
 ⟨I.ok,I.os,I.bare,I.base,I.loc,I.cell,I.free,I.freeC,fun p hp=>(zU.mp hp).elim (fun z=>I.pin p (zQ _ z)) (h p),I.hok,I.len⟩
theorem HX{N:List Str}(hN:N.Nodup){i j:Nat}{x:Str}(a:N[i]?=some x)(b:N[j]?=some x):i=j:=by
 obtain⟨h1,e1⟩:=zW.mp a;obtain⟨h2,e2⟩:=zW.mp b;exact(List.getElem_inj hN).mp (e1.trans e2.symm)
theorem HY{M:Model}{A:Around}{E:bf}{i:Nat}{x:Str}{v:V}{u:Value}{Q:Unit ->Shared ->Prop}(I:Inv X pins σ H s)(hN:X.N.Nodup)(hi:X.N[i]?=some x)(hx:Loc X.env.scope x)(r:RelV v u)
  (h:∀s',Inv X pins (σ.set i (some v)) H s' ->(∃a,Heap.SameBut a s.heap s'.heap/\ (a=X.env.locals\/X.env.cells.lookup x=some a)) ->Q () s') (hf:X.fn x=true\/X.env.scope.names.lookup x=some .local:=by first | exact .inl rfl | exact .inr rfl | assumption):wpAny M A (storeName X.env x u) Q E s:=by
 obtain⟨m,hn,hl⟩:=id I.loc;have hcls:(X.env.scope.kind== .class || (X.env.scope.kind== .module&&X.env.locals !=X.env.globals))=false:=by rw[I.ok.kind];rfl
 have Er:i<σ.length:=by rw[I.len];exact(zW.mp hi).1
 have cne:=I.cne;have tracked:∀{a:Addr} {h' :Heap},(∃o,s.heap.get? a=some o/\H a=none) ->Heap.SameBut a s.heap h' ->gY X.prog X.w H h' :=fun{a h'} ha hs b ob e=>by
  obtain⟨_,_,hfree⟩:=ha;refine(I.hok b ob e).stay (fun c w' hc q=>(hs.2 c ?_).trans q) (fun _ q=>q) fun _ _ q=>q;rintro rfl;rcases hc with rfl | hc
  ·rw[hfree] at e;cases e
  ·rw[hfree] at hc;cases hc
 rcases hx with hk | hk
 ·refine wpAny_storeName_local hk hn (fun h' hn' hs=> ?_) hcls;obtain⟨oL,_,_,hoL,_⟩:=id hn;refine h _ ⟨I.ok,I.os,I.bare,⟨fun b o e n hb hx=> ?_,fun b o e n hb hx=> ?_,I.base.free,fun b o e hx=> ?_,I.base.tups,I.base.fW,I.base.gG⟩,⟨_,hn',fun j y v' e1 e2 e3=> ?_⟩,fun y c e=> ?_,I.free,I.freeC,fun p hp=> ?_,tracked ⟨oL,hoL,I.free⟩ hs,by simpa using I.len⟩ ⟨_,hs,.inl rfl⟩
  ·exact(hs.2 b (zM (zN (zK e) I.ok.above))).trans (I.base.keep b o e n hb hx)
  ·obtain⟨sl,e1⟩:=I.base.slot b o e n hb hx;exact⟨sl,(hs.2 b (zM (zN (zK e) I.ok.above))).trans e1⟩
  ·obtain⟨o',e1⟩:=I.base.there b o e hx;exact⟨o',(hs.2 b (zM (zN (zK e) I.ok.above))).trans e1⟩
  ·by_cases hj:j=i
   ·subst hj;rw[hi] at e1;cases e1;rw[List.getElem?_set_self Er] at e2;cases e2;exact⟨u,r,.inl ⟨hk,by simp⟩⟩
   ·rw[List.getElem?_set_ne (Ne.symm hj)] at e2;obtain⟨u',r',q⟩:=hl j y v' e1 e2 e3;refine⟨u',r',?_⟩;rcases q with ⟨k,e⟩ | ⟨k,c,e,z⟩
    ·refine .inl ⟨k,?_⟩;have:y≠x:=fun e=>hj (HX hN e1 (e ▸ hi));simp [this,e]
    ·exact .inr ⟨k,c,e,z.sameBut hs (cne y c e)⟩
  ·obtain⟨w',z⟩:=I.cell y c e;exact⟨w',z.sameBut hs (cne y c e)⟩
  ·obtain⟨e,n,ne,nf,d⟩:=I.pin p hp;exact⟨(hs.2 p.1 ne).trans e,n,ne,nf,d⟩
 ·have hfn:X.fn x=true:=by
   rcases hf with z | z
   ·exact z
   ·rw[z] at hk;cases hk
  obtain⟨c,hc⟩:=I.ok.has x (.inl hk);obtain⟨w',z⟩:=I.cell x c hc;refine wpAny_storeName_cell I.ok.kind hk hc z (fun h' hc' hs=> ?_);obtain⟨oc,hoc,Ia⟩:=id z;refine h {s with heap:=h'} ⟨I.ok,I.os,I.bare,⟨fun b o e n hb hx=> ?_,fun b o e n hb hx=> ?_,I.base.free,fun b o e hx=> ?_,I.base.tups,I.base.fW,I.base.gG⟩,⟨m,hn.sameBut hs (Ne.symm (cne x c hc)),fun j y v' e1 e2 e3=> ?_⟩,fun y c' e=> ?_,I.free,I.freeC,fun p hp=> ?_,tracked ⟨oc,hoc,I.freeC x c hc⟩ hs,by simpa using I.len⟩ ⟨c,hs,.inr hc⟩
  ·exact(hs.2 b (zM (zN (zK e) (I.ok.cab x c hfn hc)))).trans (I.base.keep b o e n hb hx)
  ·obtain⟨sl,e1⟩:=I.base.slot b o e n hb hx;exact⟨sl,(hs.2 b (zM (zN (zK e) (I.ok.cab x c hfn hc)))).trans e1⟩
  ·obtain⟨o',e1⟩:=I.base.there b o e hx;exact⟨o',(hs.2 b (zM (zN (zK e) (I.ok.cab x c hfn hc)))).trans e1⟩
  ·by_cases hj:j=i
   ·subst hj;rw[hi] at e1;cases e1;rw[List.getElem?_set_self Er] at e2;cases e2;exact⟨u,r,.inr ⟨.inl hk,c,hc,hc'⟩⟩
   ·rw[List.getElem?_set_ne (Ne.symm hj)] at e2;obtain⟨u',r',q⟩:=hl j y v' e1 e2 e3;refine⟨u',r',?_⟩;rcases q with q | ⟨k,c',e,z'⟩
    ·exact .inl q
    ·refine .inr ⟨k,c',e,z'.sameBut hs ?_⟩;rintro rfl;exact hj (HX hN e1 (I.ok.inj _ _ _ e hc ▸ hi))
  ·by_cases hcc:c' =c
   ·subst hcc;exact⟨_,hc'⟩
   ·obtain⟨w2,z2⟩:=I.cell y c' e;exact⟨w2,z2.sameBut hs hcc⟩
  ·obtain⟨e,n,ne,nf,d⟩:=I.pin p hp;refine⟨(hs.2 p.1 ?_).trans e,n,ne,nf,d⟩;intro q;rw[q,hoc] at e;have q' :oc=p.2:=zJ e;exact d w' (by rw[<- q'];exact Ia)
theorem yg{M:Model}{A:Around}{E:bf}{i:Nat}{x:Str}{v:V}{u:Value}{Q:Unit ->Shared ->Prop}(I:Inv X pins σ H s)(hN:X.N.Nodup)(hi:X.N[i]?=some x)(hx:Loc X.env.scope x)(r:RelV v u)
  (h:∀s',Inv X pins (σ.set i (some v)) H s' ->Q () s') (hf:X.fn x=true\/X.env.scope.names.lookup x=some .local:=by first | exact .inl rfl | exact .inr rfl | assumption):wpAny M A (storeName X.env x u) Q E s:=
 HY I hN hi hx r (fun s' I' _=>h s' I') hf
theorem Inv.call'{s' :Shared}{ch:List Addr}(I:Inv X pins σ H s)(ho:s'.os=s.os)(u:Un (frs X.stack) ch H H' s.heap s'.heap)(hok:gY X.prog X.w H' s'.heap)(hg:AllBare s'.gens)
  (hch:∀b∈ch,(b∈X.ex\/X.s₀.heap.objs.size<=b)/\b≠X.env.locals/\ (∀x c,X.env.cells.lookup x=some c ->c≠b)/\∀p∈X.pn++pins,p.1≠b):Inv X pins σ H' s' :=by
 obtain⟨h',g',d',t',o'⟩:=s';have e:o' =s.os:=ho;subst e;exact I.call (g' :=g') (t' :=t') (d' :=d') u hok hg hch
end
abbrev XK:=Value ->Option Addr ->Hp ->Prop
abbrev St:=List (Option V)
abbrev VK:=V ->Hp ->Prop
abbrev TE:=St ->Hp ->VK ->Prop
abbrev TT:=St ->Hp ->(Bool ->Hp ->Prop) ->Prop
abbrev TA:=St ->Hp ->(List V ->Hp ->Prop) ->Prop
structure Ends where
 nx:St ->Hp ->Prop
 rt:VK
 bk:St ->Hp ->Prop:=fun _ _=>False
 ct:St ->Hp ->Prop:=fun _ _=>False
abbrev TS:=Ends ->St ->Hp ->Prop
def EP(X:Cx)(pins:aV)(σ:St)(Q:VK)(u:Value)(s' :Shared):Prop:=∃v H',Inv X pins σ H' s' /\RelV v u/\Q v H'
def TP(X:Cx)(pins:aV)(σ:St)(Q:Bool ->Hp ->Prop)(b:Bool)(s' :Shared):Prop:=∃H',Inv X pins σ H' s' /\Q b H'
def AP(X:Cx)(pins:aV)(σ:St)(Q:List V ->Hp ->Prop)(us:List Value)(s' :Shared):Prop:=∃vs H',Inv X pins σ H' s' /\Vals vs us/\Q vs H'
def SP(X:Cx)(pins:aV)(D:Ends)(f:Flow)(s' :Shared):Prop:=
 match f with
 | .next=>∃σ' H',Inv X pins σ' H' s' /\D.nx σ' H'
 | .brk=>∃σ' H',Inv X pins σ' H' s' /\D.bk σ' H'
 | .cont=>∃σ' H',Inv X pins σ' H' s' /\D.ct σ' H'
 | .ret u=>∃v σ' H',Inv X pins σ' H' s' /\RelV v u/\D.rt v H'
def PE(X:Cx)(e:Expr)(t:TE):Prop:=
 ∀(pins:aV) (s:Shared) (σ:St) (H:Hp) (Q:VK),Inv X pins σ H s ->t σ H Q ->wpAny (model X.prog X.w) X.A (eval e X.env) (EP X pins σ Q) X.xe s
def PT(X:Cx)(e:Expr)(t:TT):Prop:=
 ∀(pins:aV) (s:Shared) (σ:St) (H:Hp) (Q:Bool ->Hp ->Prop),Inv X pins σ H s ->t σ H Q ->wpAny (model X.prog X.w) X.A (isTrue e X.env (eval e X.env)) (TP X pins σ Q) X.xe s
def PW(X:Cx)(e:Expr)(t:TT):Prop:=
 ∀(whole:Sem Value) (pins:aV) (s:Shared) (σ:St) (H:Hp) (Q:Bool ->Hp ->Prop),Inv X pins σ H s ->t σ H Q ->wpAny (model X.prog X.w) X.A (isTrue e X.env whole) (TP X pins σ Q) X.xe s
theorem PW.pt{X:Cx}{e:Expr}{t:TT}(h:PW X e t):PT X e t:=h _
def PA(X:Cx)(es:List Expr)(t:TA):Prop:=
 ∀(pos:Pos) (pins:aV) (s:Shared) (σ:St) (H:Hp) (Q:List V ->Hp ->Prop),Inv X pins σ H s ->t σ H Q ->wpAny (model X.prog X.w) X.A (spliced (backTo pos (starEach es X.env))) (AP X pins σ Q) X.xe s
def PS(X:Cx)(st:Stmt)(t:TS):Prop:=
 ∀(pins:aV) (s:Shared) (σ:St) (H:Hp) (D:Ends),Inv X pins σ H s ->t D σ H ->wpAny (model X.prog X.w) X.A (exec st X.env) (SP X pins D) X.xe s
def pG(X:Cx)(st:List Stmt)(t:TS):Prop:=
 ∀(pins:aV) (s:Shared) (σ:St) (H:Hp) (D:Ends),Inv X pins σ H s ->t D σ H ->wpAny (model X.prog X.w) X.A (execs st X.env) (SP X pins D) X.xe s
theorem aY{α:Type}{t:Sem α}{Q Q' :α ->Shared ->Prop}{M:Model}{A:Around}{E:bf}{s:Shared}(h:wpAny M A t Q E s)(hQ:∀a s,Q a s ->Q' a s):wpAny M A t Q' E s:=wpAny_mono h hQ fun _ _ x=>x
section
variable{X:Cx}
def vP(i:Nat):TE:=fun σ H Q=>∃v,σ[i]?=some (some v)/\Q v H
def tC(v:V):TE:=fun _ H Q=>Q v H
theorem tG{i:Nat}{x:Str}{pos:Pos}(hN:X.N[i]?=some x)(hv:nP X.env.scope x)(hd:(x==("__debug__" :Str))=false:=by decide)(hcd:(x==("__classdict__" :Str))=false:=by decide):PE X (.Name x pos) (vP i):=by
 intro pins s σ H Q I h;obtain⟨v,e,h⟩:=h;obtain⟨m,hn,hl⟩:=I.loc;obtain⟨u,r,l⟩:=hl i x v hN e hv;have fin:EP X pins σ Q u s:=⟨v,H,I,r,h⟩;rcases l with ⟨hk,hm⟩ | ⟨hk,c,hc,hcell⟩
 ·exact wpAny_Name (wpAny_loadName_local I.ok.kind hk hn hm fin) hd
 ·rcases hk with hk | hk
  ·exact wpAny_Name (wpAny_loadName_cell I.ok.kind hk hc hcell fin) hd
  ·exact wpAny_Name (wpAny_loadName_free I.ok.kind hk hc hcell fin hcd) hd
theorem Ib{i j pos}:PE X (.Constant (.int i) j pos) (tC (.int i)):=fun _ _ _ H _ I h=>wpAny_Constant_int ⟨.int i,H,I.tok _,⟨_,rfl⟩,h⟩
theorem Yt{b j pos}:PE X (.Constant (.bool b) j pos) (tC (.bl b)):=fun _ _ _ H _ I h=>Constant_bool ⟨.bl b,H,I,rfl,h⟩
theorem Yu{j pos}:PE X (.Constant .none j pos) (tC .non):=fun _ _ _ H _ I h=>Constant_none ⟨.non,H,I,rfl,h⟩
theorem Qo{x j pos}:PE X (.Constant (.str x) j pos) (tC (.str x)):=fun _ _ _ H _ I h=>Calls.Constant_str ⟨.str x,H,I.tok _,⟨_,rfl⟩,h⟩
def Gl(X:Cx)(x:Str):Prop:=X.env.kindOf x=some .globalImplicit
theorem yh{E:bf}{pins:aV}{s:Shared}{σ:St}{H:Hp}{x:Str}{u:Value}{pos:Pos}{Q:bf}(I:Inv X pins σ H s)(hg:Gl X x)(hm:X.mg x=some u)(h:Q u s)
  (hd:(x==("__debug__" :Str))=false:=by decide):wpAny (model X.prog X.w) X.A (eval (.Name x pos) X.env) Q E s:=
 Calls.Name_function_global I.ok.kind hg (Calls.loadGlobal_global (by rw[I.ok.glob];exact I.mod.glob.keeps I.bk) hm h) hd
theorem uX{E:bf}{pins:aV}{s:Shared}{σ:St}{H:Hp}{x:Str}{u:Value}{pos:Pos}{Q:bf}(I:Inv X pins σ H s)(hg:Gl X x)(hm:X.mg x=none)(hv:bootBuiltins x=some u)(h:Q u s)
  (hn:x≠ "__name__" :=by decide) (hd:(x==("__debug__" :Str))=false:=by decide):wpAny (model X.prog X.w) X.A (eval (.Name x pos) X.env) Q E s:=by
 obtain⟨mb,h1,h2⟩:=I.mod.blt;exact Calls.Name_function_global I.ok.kind hg (Calls.loadGlobal_builtin (by rw[I.ok.glob];exact I.mod.glob.keeps I.bk) hm (by rw[I.ok.blt];exact h1.keeps I.bk) ((h2 x hn).trans hv) h) hd
theorem Yv{x:Str}{v:V}{u:Value}{pos:Pos}(hg:Gl X x)(hm:X.mg x=none)(hv:bootBuiltins x=some u)(r:RelV v u)(hn:x≠ "__name__" :=by decide)(hd:(x==("__debug__" :Str))=false:=by decide):PE X (.Name x pos) (tC v):=
 fun _ _ _ H _ I h=>uX I hg hm hv ⟨v,H,I,r,h⟩ hn hd
def Es(ta tb:TE)(k:Int ->Int ->Hp ->Prop):St ->Hp ->Prop:=fun σ H=>ta σ H fun x H1=>tb σ H1 fun y H2=>∃i j,x= .int i/\y= .int j/\k i j H2
def Yw(ta tb:TE):TE:=fun σ H Q=>Es ta tb (fun i j H2=>Q (.int (i+j)) H2) σ H
def Yx(ta tb:TE):TE:=fun σ H Q=>Es ta tb (fun i j H2=>Q (.int (i - j)) H2) σ H
def Yy(ta tb:TE):TE:=fun σ H Q=>Es ta tb (fun i j H2=>(-(2^64)<i/\i<2^64)/\Q (.int (i*j)) H2) σ H
variable{a b:Expr}{ta tb:TE}{pos:Pos}
def PC(X:Cx)(op:CmpOp)(a b:Expr)(t:TE):Prop:=
 ∀(pins:aV) (s:Shared) (σ:St) (H:Hp) (Q:VK),Inv X pins σ H s ->t σ H Q ->
  wpAny (model X.prog X.w) X.A (eval a X.env) (fun v s₁=>wpAny (model X.prog X.w) X.A (eval b X.env) (fun u s₂=>wpAny (model X.prog X.w) X.A (compareOp op v u) (EP X pins σ Q) X.xe s₂) X.xe s₁) X.xe s
def pH(p:Int ->Int ->Bool)(ta tb:TE):TE:=fun σ H Q=>Es ta tb (fun i j H2=>Q (.bl (p i j)) H2) σ H
abbrev tLt:TE ->TE ->TE:=pH fun i j=>decide (i<j)
abbrev tLe:TE ->TE ->TE:=pH fun i j=>decide (i<=j)
abbrev tGt:TE ->TE ->TE:=pH fun i j=>decide (j<i)
abbrev tGe:TE ->TE ->TE:=pH fun i j=>decide (j<=i)
abbrev Yz:TE ->TE ->TE:=pH fun i j=>decide (i=j)
abbrev YB:TE ->TE ->TE:=pH fun i j=> !decide (i=j)
def YC(ta:TE):TE:=fun σ H Q=>ta σ H fun x H1=>Q (.bl (decide (x= .non))) H1
def Qp(ta:TE):TE:=fun σ H Q=>ta σ H fun x H1=>Q (.bl (!decide (x= .non))) H1
def tB(t:TE):TT:=fun σ H Q=>t σ H fun x H1=>∃c,x= .bl c/\Q c H1
theorem YD{e:Expr}{t:TE}(h:PE X e t)(he:∀whole,isTrue e X.env whole=(do let v<- whole;standAt e.pos;holding [v] (truthy v)):=by intro _;rfl):PT X e (tB t):=by
 intro pins s σ H Q I hw;refine isTrue_plain (aY (h pins s σ H _ I hw) fun v s1 ⟨x,H1,I1,r1,q1⟩=> ?_) (he _);obtain⟨d,rfl,q⟩:=q1;cases r1;exact wpAny_truthy_bool ⟨H1,I1,q⟩
variable{tA tY :TT}{rest:List Expr}
def Ie(t u:TT):TT:=fun σ H Q=>t σ H fun c H1=>if c=true then u σ H1 Q else Q false H1
def YF(t u:TT):TT:=fun σ H Q=>t σ H fun c H1=>if c=true then Q true H1 else u σ H1 Q
def Ig(t:TT):TT:=fun σ H Q=>t σ H fun c H1=>Q (!c) H1
theorem YG(ha:PT X a tA):PW X (.BoolOp .And [a] pos) tA:=by
 intro wh pins s σ H Q I h;refine isTrue_and (aY (ha pins s σ H Q I h) fun c s1 e=> ?_);cases c with
 | true=>exact isTrue_and_nil e
 | false=>exact e
theorem YH(ha:PT X a tA):PW X (.BoolOp .Or [a] pos) tA:=by
 intro wh pins s σ H Q I h;refine isTrue_or (aY (ha pins s σ H Q I h) fun c s1 e=> ?_);cases c with
 | false=>exact isTrue_or_nil e
 | true=>exact e
theorem YJ(ha:PT X a tA)(hb:PW X (.BoolOp .And (b::rest) pos) tY):PW X (.BoolOp .And (a::b::rest) pos) (Ie tA tY):=by
 intro wh pins s σ H Q I h;refine isTrue_and (aY (ha pins s σ H _ I h) fun c s1 ⟨H1,I1,q1⟩=> ?_);cases c with
 | true=>exact hb wh pins s1 σ H1 Q I1 q1
 | false=>exact⟨H1,I1,q1⟩
theorem YK(ha:PT X a tA)(hb:PW X (.BoolOp .Or (b::rest) pos) tY):PW X (.BoolOp .Or (a::b::rest) pos) (YF tA tY):=by
 intro wh pins s σ H Q I h;refine isTrue_or (aY (ha pins s σ H _ I h) fun c s1 ⟨H1,I1,q1⟩=> ?_);cases c with
 | true=>exact⟨H1,I1,q1⟩
 | false=>exact hb wh pins s1 σ H1 Q I1 q1
theorem YL(ha:PT X a tA):PT X (.UnaryOp .Not a pos) (Ig tA):=by
 intro pins s σ H Q I h;exact isTrue_not (ha pins s σ H (fun c H1=>Q (!c) H1) I h)
def zu(ta tb:TE):TE:=fun σ H Q=>ta σ H fun x H1=>∃c,x= .bl c/\if c=true then tb σ H1 Q else Q (.bl false) H1
def YM(ta tb:TE):TE:=fun σ H Q=>ta σ H fun x H1=>∃c,x= .bl c/\if c=true then Q (.bl true) H1 else tb σ H1 Q
def Qq(ta:TE):TE:=fun σ H Q=>ta σ H fun x H1=>∃c,x= .bl c/\Q (.bl (!c)) H1
theorem YQ{op}{t:TE}(h:PE X a t):PE X (.BoolOp op [a] pos) t:=fun pins s σ H Q I hw=>BoolOp_one (h pins s σ H Q I hw)
theorem YS(ha:PE X a ta)(hb:PE X (.BoolOp .And (b::rest) pos) tb):PE X (.BoolOp .And (a::b::rest) pos) (zu ta tb):=by
 intro pins s σ H Q I h;refine BoolOp_and (aY (ha pins s σ H _ I h) fun v s1 Ih=> ?_);obtain⟨x,H1,I1,r1,q1⟩:=Ih;obtain⟨c,rfl,q1⟩:=q1;cases r1;refine wpAny_truthy_bool ?_;cases c with
 | true=>exact hb pins s1 σ H1 Q I1 q1
 | false=>exact⟨.bl false,H1,I1,rfl,q1⟩
def tIf(t:TT)(ta tb:TE):TE:=fun σ H Q=>t σ H fun c H1=>if c=true then ta σ H1 Q else tb σ H1 Q
end
def dW(K:W.Frag)(H:Hp)(a:Addr)(xs:List V):Prop:=
 Rd H a (.lst xs)\/
  ∃(o:Obj) (its:Array Value) (n:Nat),K.lookup a=some o/\o.cls= .type "list" /\o.dict=none/\o.data= .seq its n/\its.size<=sizeLine/\Vals xs its.toList
def iw(K:W.Frag)(H:Hp)(a:Addr)(xs:List V):Prop:=
 Rd H a (.tup xs)\/
  ∃(o:Obj) (its:Array Value) (n:Nat),K.lookup a=some o/\o.cls= .type "tuple" /\o.data= .seq its n/\its.size<=sizeLine/\Vals xs its.toList
def Ii:Value ->Option V
 | .none=>some .non
 | .bool b=>some (.bl b)
 | .int i _=>some (.int i)
 | .str x _=>some (.str x)
 | .bytes b _=>some (.uU b)
 | .float b _=>some (.flt b)
 | .ref a=>some (.ref a)
 | .type n=>some (.ty n)
 | _=>none
theorem RelV.abs{x:V}{u:Value}(r:RelV x u):Ii u=some x:=by
 cases x with
 | non=>cases r;rfl
 | bl _=>cases r;rfl
 | int _=>obtain⟨t,rfl⟩:=r;rfl
 | str _=>obtain⟨t,rfl⟩:=r;rfl
 | uU _=>obtain⟨t,rfl⟩:=r;rfl
 | flt _=>obtain⟨t,rfl⟩:=r;rfl
 | ref _=>cases r;rfl
 | ty _=>cases r;rfl
theorem RelV.inj{x y:V}{u:Value}(r:RelV x u)(q:RelV y u):x=y:=zJ (r.abs.symm.trans q.abs)
theorem Vals.inj:∀{xs ys:List V} {us:List Value},Vals xs us ->Vals ys us ->xs=ys
 | _,_,_,.nil,.nil=>rfl
 | _,_,_,.cons r t,.cons r' t' =>by rw[r.inj r',Vals.inj t t']
section
variable{X:Cx}{pins:aV}{σ:St}{H:Hp}{s:Shared}{a:Addr}{xs ys:List V}
theorem Inv.list(I:Inv X pins σ H s)(h:dW X.K H a xs):∃its:List Value,Vals xs its/\PlainL s.heap a its.toArray/\xs.length<=sizeLine:=by
 rcases h with h | ⟨o,its,n,hk,hc,hd,hs,hz,r⟩
 ·obtain⟨z,its,n,r,e⟩:=h.ok I.hok;exact⟨its,r,⟨_,n,e,rfl,rfl,rfl⟩,z⟩
 ·refine⟨its.toList,r,⟨o,n,I.kIn a o hk,hc,hd,by simpa using hs⟩,?_⟩
  have e:=r.length;simp only [Array.length_toList] at e;omega
theorem Inv.tuple(I:Inv X pins σ H s)(h:iw X.K H a xs):∃its:List Value,Vals xs its/\IsTup s.heap a its.toArray/\xs.length<=sizeLine:=by
 rcases h with h | ⟨o,its,n,hk,hc,hs,hz,r⟩
 ·obtain⟨z,its,r,p⟩:=h.ok I.hok;exact⟨its,r,p,z⟩
 ·refine⟨its.toList,r,⟨o,I.kIn a o hk,hc,n,by simpa using hs⟩,?_⟩
  have e:=r.length;simp only [Array.length_toList] at e;omega
theorem Inv.list_inj(I:Inv X pins σ H s)(h:dW X.K H a xs)(h' :dW X.K H a ys):xs=ys:=by
 obtain⟨its,r,⟨o,n,e,_,_,d⟩,_⟩:=I.list h;obtain⟨its',r',⟨o',n',e',_,_,d'⟩,_⟩:=I.list h';rw[e] at e';cases e';rw[d] at d';injection d' with d1 _;have:its=its' :=by simpa using congrArg Array.toList d1
 subst this;exact r.inj r'
theorem Inv.tuple_inj(I:Inv X pins σ H s)(h:iw X.K H a xs)(h' :iw X.K H a ys):xs=ys:=by
 obtain⟨its,r,⟨o,e,_,n,d⟩,_⟩:=I.tuple h;obtain⟨its',r',⟨o',e',_,n',d'⟩,_⟩:=I.tuple h';rw[e] at e';cases e';rw[d] at d';injection d' with d1 _;have:its=its' :=by simpa using congrArg Array.toList d1
 subst this;exact r.inj r'
end
abbrev Cx.wish(X:Cx)(E:bf):Cx:={X with xe:=E}
abbrev Cx.nox(X:Cx):Cx:=X.wish fun _ _=>False
section
variable{X:Cx}{pins:aV}{σ:St}{H:Hp}{s:Shared}{E:bf}
end
section
variable{X:Cx}{st:Stmt}{rest:List Stmt}{t u:TS}{e:Expr}{te:TE}{pos:Pos}
def zx:TS:=fun D σ H=>D.nx σ H
def Ij(t u:TS):TS:=fun D σ H=>t {D with nx:=u D} σ H
theorem YT:pG X [] zx:=fun _ _ σ H _ I h=>wpAny_execs_nil ⟨σ,H,I,h⟩
theorem Qs(h1:PS X st t)(h2:pG X rest u):pG X (st::rest) (Ij t u):=by
 intro pins s σ H D I h;refine wpAny_execs_cons (aY (h1 pins s σ H {D with nx:=u D} I h) fun f s1 q=> ?_);cases f with
 | next=>
  obtain⟨σ',H',I',q⟩:=q;exact h2 pins s1 σ' H' D I' q
 | ret v=>exact q
 | brk=>exact q
 | cont=>exact q
theorem Qt(h1:PS X st t):pG X [st] t:=by
 intro pins s σ H D I h;refine wpAny_execs_cons (aY (h1 pins s σ H D I h) fun f s1 q=> ?_);cases f with
 | next=>exact wpAny_execs_nil q
 | ret v=>exact q
 | brk=>exact q
 | cont=>exact q
def Ik:TS:=fun D σ H=>D.bk σ H
def Qu:TS:=fun D σ H=>D.ct σ H
theorem Inv.quiet{pins:aV}{σ:St}{H:Hp}{s:Shared}(I:Inv X pins σ H s):interactive X.env=false:=by simp [interactive,I.ok.kind]
def zy(te:TE):TS:=fun D σ H=>te σ H fun _ H1=>D.nx σ H1
theorem Il(he:PE X e te)(hs:swapsWith e none pos.line X.env=pure false:=by rfl):PS X (.Expr e pos) (zy te):=by
 intro pins s σ H D I h;exact wpAny_Expr_any (aY (he pins s σ H _ I h) fun v s1 Im=>by obtain⟨x,H1,I1,r1,q1⟩:=Im;exact⟨σ,H1,I1,q1⟩) I.quiet hs
def Io(te:TE):TS:=fun D σ H=>te σ H D.rt
theorem Ip(he:PE X e te):PS X (.Return (some e) pos) (Io te):=by
 intro pins s σ H D I h;exact wpAny_Return_some (aY (he pins s σ H _ I h) fun v s1 vQ=>by obtain⟨x,H1,I1,r1,q1⟩:=vQ;exact⟨x,σ,H1,I1,r1,q1⟩)
def Qw:TS:=fun D _ H=>D.rt .non H
def Ir(c:TT)(t u:TS):TS:=fun D σ H=>c σ H fun b H1=>if b=true then t D σ H1 else u D σ H1
theorem YW{c:Expr}{a b:List Stmt}{tc:TT}(hc:PT X c tc)(ha:pG X a t)(hb:pG X b u):PS X (.If c a b pos) (Ir tc t u):=by
 intro pins s σ H D I h;refine wpAny_If (aY (hc pins s σ H _ I h) fun d s1 ⟨H1,I1,q1⟩=> ?_);cases d with
 | true=>exact ha pins s1 σ H1 D I1 q1
 | false=>exact hb pins s1 σ H1 D I1 q1
def Iu:TS:=fun _ _ _=>False
end
abbrev TG:=V ->St ->Hp ->(St ->Hp ->Prop) ->Prop
abbrev tZ:=List V ->St ->Hp ->(St ->Hp ->Prop) ->Prop
def PG(X:Cx)(target:Expr)(t:TG):Prop:=
 ∀(pins:aV) (s:Shared) (σ:St) (H:Hp) (v:V) (u:Value) (Q:St ->Hp ->Prop),Inv X pins σ H s ->RelV v u ->t v σ H Q ->
  wpAny (model X.prog X.w) X.A (assign target X.env u) (fun _ s' =>∃σ' H',Inv X pins σ' H' s' /\Q σ' H') X.xe s
def vR(X:Cx)(ts:List Expr)(t:tZ):Prop:=
 ∀(pins:aV) (s:Shared) (σ:St) (H:Hp) (vs:List V) (us:List Value) (Q:St ->Hp ->Prop),Inv X pins σ H s ->Vals vs us ->t vs σ H Q ->
  wpAny (model X.prog X.w) X.A (assignInOrder ((assignEach ts X.env).map (·.2)) us) (fun _ s' =>∃σ' H',Inv X pins σ' H' s' /\Q σ' H') X.xe s
abbrev uc:=V ->V ->V ->Hp ->(Hp ->Prop) ->Prop
def zA(X:Cx)(t:uc):Prop:=
 ∀(pins:aV) (s:Shared) (σ:St) (H:Hp) (o i v:V) (ov iv u:Value) (Q:Hp ->Prop),Inv X pins σ H s ->RelV o ov ->RelV i iv ->RelV v u ->t o i v H Q ->
  wpAny (model X.prog X.w) X.A (setItem ov iv u) (fun _ s' =>∃H',Inv X pins σ H' s' /\Q H') X.xe s
abbrev Et:=V ->V ->Hp ->VK ->Prop
def PIp(X:Cx)(op:Operator)(t:Et):Prop:=
 ∀(pins:aV) (s:Shared) (σ:St) (H:Hp) (x y:V) (v u:Value) (Q:VK),Inv X pins σ H s ->RelV x v ->RelV y u ->t x y H Q ->
  wpAny (model X.prog X.w) X.A (inplaceOp op v u) (EP X pins σ Q) X.xe s
section
variable{X:Cx}{pos:Pos}
def qx(i:Nat):TG:=fun v σ H Q=>Q (σ.set i (some v)) H
theorem Qx{i:Nat}{x:Str}(hN:X.N.Nodup)(hi:X.N[i]?=some x)(hx:Loc X.env.scope x)(hf:X.fn x=true\/X.env.scope.names.lookup x=some .local:=by first | exact .inl rfl | exact .inr rfl | assumption):PG X (.Name x pos) (qx i):=by
 intro pins s σ H v u Q I r h;exact wpAny_assign_Name (yg I hN hi hx r (fun s' I' =>⟨_,H,I',h⟩) hf)
def Iv:tZ:=fun vs σ H Q=>vs= []/\Q σ H
def zB(t:TG)(u:tZ):tZ:=fun vs σ H Q=>∃v r,vs=v::r/\t v σ H fun σ' H' =>u r σ' H' Q
theorem YX:vR X [] Iv:=by
 intro pins s σ H vs us Q I r h;obtain⟨e,h⟩:=h;subst e;cases r;exact assignInOrder_nil ⟨σ,H,I,h⟩
theorem YZ{e:Expr}{es:List Expr}{t:TG}{u:tZ}(h1:PG X e t)(h2:vR X es u)
  (hs:(assignEach (e::es) X.env).map (·.2)=assign e X.env::(assignEach es X.env).map (·.2):=by rfl):vR X (e::es) (zB t u):=by
 intro pins s σ H vs us Q I r h;obtain⟨v,vr,e1,h⟩:=h;subst e1;cases r with
 | cons r rr=>
  rw[hs];refine assignInOrder_cons (aY (h1 pins s σ H _ _ _ I r h) fun _ s1 ⟨σ1,H1,I1,q1⟩=> ?_);exact h2 pins s1 σ1 H1 _ _ Q I1 rr q1
def Iw(K:W.Frag)(n:Nat)(t:tZ):TG:=fun v σ H Q=>∃a xs,v= .ref a/\iw K H a xs/\xs.length=n/\t xs σ H Q
theorem Y0{es:List Expr}{k:Nat}{t:tZ}{n:Nat}(hc:X.calm=true)(h:vR X es t)
  (hn:(assignEach es X.env).length=n:=by rfl) (hst:(assignEach es X.env).findIdx? (·.1)=none:=by rfl):PG X (.Tuple es k pos) (Iw X.K n t):=by
 intro pins s σ H v u Q I r hw;obtain⟨a,xs,e1,hq,hl,hw⟩:=hw;subst e1;cases r;obtain⟨its,rv,ht,hz⟩:=I.tuple hq;refine assign_Tuple_tuple (I.ok.hd hc) ht (by simp [hn,<- hl,rv.length]) hst fun h' hx=> ?_
 have I1:Inv X pins σ H {s with heap:=h'}:=I.kept (t' :=s.toks) fun b o e=>hx b o (zM (zK e)) e;exact h pins _ σ H xs _ Q I1 (by simpa using rv) hw
def gH(to ti:TE)(t:uc):TG:=fun v σ H Q=>to σ H fun o H1=>ti σ H1 fun i H2=>t o i v H2 fun H3=>Q σ H3
theorem Y4{o i:Expr}{to ti:TE}{t:uc}(ho:PE X o to)(hi:PE X i ti)(hs:zA X t)
  (ha:∀v,assign (.Subscript o i pos) X.env v=(do
   let ov<- holding [v] (eval o X.env)
   let iv<- holding [v,ov] (eval i X.env)
   standAt pos
   holding [v,ov,iv] (setItem ov iv v)
   release [v,ov,iv] []):=by intro _;rfl):PG X (.Subscript o i pos) (gH to ti t):=by
 intro pins s σ H v u Q I r h;rw[ha];refine z6 (wpAny_holding (aY (ho pins s σ H _ I h) fun ov s1 qy=> ?_));obtain⟨x,H1,I1,r1,q1⟩:=qy;refine z6 (wpAny_holding (aY (hi pins s1 σ H1 _ I1 q1) fun iv s2 vU=> ?_));obtain⟨y,H2,I2,r2,q2⟩:=vU;refine z6 (wpAny_standAt (z6 (wpAny_holding (aY (hs pins s2 σ H2 x y v ov iv u _ I2 r1 r2 r q2) fun _ s3 ⟨H3,I3,q3⟩=> ?_))));exact wpAny_release ⟨σ,H3,I3,q3⟩
def zE(te:TE)(g:TG):TS:=fun D σ H=>te σ H fun x H1=>g x σ H1 D.nx
theorem Y5{tg e:Expr}{te:TE}{g:TG}(he:PE X e te)(hg:PG X tg g)(hs:swapsWithSole [tg] e pos.line X.env=pure false:=by rfl)(hw:swappedStores [tg] e X.env=pure none:=by rfl)
  (h1:(assignEach [tg] X.env).map (·.2)= [assign tg X.env]:=by rfl):PS X (.Assign [tg] e pos) (zE te g):=by
 intro pins s σ H D I h;refine wpAny_Assign_stores (aY (he pins s σ H _ I h) fun v s1 ⟨x,H1,I1,r1,q1⟩=> ?_) hs hw;rw[h1];exact aY (hg pins s1 σ H1 x v _ I1 r1 q1) fun _ s2 q=>q
theorem yj{i:Nat}{x:Str}{e:Expr}{te:TE}{pos' :Pos}(hN:X.N.Nodup)(hi:X.N[i]?=some x)(hx:Loc X.env.scope x)(he:PE X e te)(hs:swapsWith e (some (.Name x pos')) pos.line X.env=pure false:=by rfl)(hf:X.fn x=true\/X.env.scope.names.lookup x=some .local:=by first | exact .inl rfl | exact .inr rfl | assumption):
  PS X (.Assign [.Name x pos'] e pos) (zE te (qx i)):=by
 intro pins s σ H D I h;refine wpAny_Assign_Name (aY (he pins s σ H _ I h) fun v s1 ⟨y,H1,I1,r1,q1⟩=> ?_) hs;exact yg I1 hN hi hx r1 (fun s2 I2=>⟨_,H1,I2,q1⟩) hf
def Iz(i j:Nat)(ta:TA):TS:=fun D σ H=>ta σ H fun vs H1=>∃v w,vs= [v,w]/\D.nx ((σ.set i (some v)).set j (some w)) H1
theorem Y6{i j:Nat}{x y:Str}{a b:Expr}{ta:TA}{px py pt:Pos}{kt k2 vV}(hc:X.calm=true)(hN:X.N.Nodup)(hi:X.N[i]?=some x)(hj:X.N[j]?=some y)(hij:i≠j)
  (hx:X.env.scope.names.lookup x=some .local) (hy:X.env.scope.names.lookup y=some .local) (ha:PA X [a,b] ta)
  (hw:swappedStores [.Tuple [.Name x px,.Name y py] kt pt] (.Tuple [a,b] k2 vV) X.env=pure (some [x,y]))
  (hs:swapsWithSole [.Tuple [.Name x px,.Name y py] kt pt] (.Tuple [a,b] k2 vV) pos.line X.env=pure false:=by rfl):
  PS X (.Assign [.Tuple [.Name x px,.Name y py] kt pt] (.Tuple [a,b] k2 vV) pos) (Iz i j ta):=by
 intro pins s σ H D I h;rw[exec_Assign_arm];refine z6 (wpAny_standAt ?_);rw[hs];refine z6 (z7 ?_);rw[if_neg (by decide)]
 refine z6 (Tuple_ (aY (ha _ pins s σ H _ I h) fun us s1 IK=> ?_));obtain⟨vs,H1,I1,r1,q1⟩:=IK;obtain⟨v,w,e1,q1⟩:=q1;subst e1;obtain⟨u1,u2,rfl,rv,lR⟩:∃u1 u2,us= [u1,u2]/\RelV v u1/\RelV w u2:=by
  cases r1 with
  | cons p q=>
   cases q with
   | cons p' q' =>
    cases q';exact⟨_,_,rfl,p,p'⟩
 refine wpAny_newObj_type ?_ (by show 2<=sizeLine;decide)
 have I2:Inv X pins σ H1 {s1 with heap:=s1.heap.push {cls:= .type "tuple",data:= .seq [u1,u2].toArray}}:=I1.kept (t' :=s1.toks) fun b o e=>z8 _ e;rw[hw];refine z6 (z7 ?_);show wpAny (model X.prog X.w) X.A (do rule "assign.swapped-stores";let items<- unpackItems (.ref s1.heap.objs.size) 2 none;assignInOrder [fun v=>bindName X.env y v,fun v=>bindName X.env x v] items.reverse;pure Flow.next) _ _ _;refine z6 (wpAny_rule (z6 (unpackItems_tuple (items:= #[u1,u2]) (I.ok.hd hc) (IsTup.new s1.heap _) fun h' hx' => ?_)));have I3:=I2.kept (h' :=h') (t' :=s1.toks) fun b o e=>hx' b o (zM (zK e)) e;show wpAny _ _ (assignInOrder [fun v=>bindName X.env y v,fun v=>bindName X.env x v] [u2,u1]>>=fun _=>pure Flow.next) _ _ _;refine z6 (assignInOrder_cons (wpAny_bindName (yg I3 hN hj (.inl hy) lR (fun s2 I4=> ?_) (.inr hy))));refine assignInOrder_cons (wpAny_bindName (yg I4 hN hi (.inl hx) rv (fun s3 I5=>assignInOrder_nil (z7 ?_)) (.inr hx)));rw[List.set_comm _ _ (Ne.symm hij)] at I5;exact⟨_,H1,I5,q1⟩
def Y7(i:Nat)(te:TE)(ti:Et):TS:=fun D σ H=>∃x,σ[i]?=some (some x)/\te σ H fun y H1=>ti x y H1 fun z H2=>D.nx (σ.set i (some z)) H2
def Qy(to ti te:TE)(IV:V ->V ->Hp ->VK ->Prop)(Y8:Et)(IW:uc):TS:=fun D σ H=>to σ H fun o H1=>ti σ H1 fun i H2=>IV o i H2 fun x H3=>te σ H3 fun y H4=>Y8 x y H4 fun z H5=>IW o i z H5 fun H6=>D.nx σ H6
def Y9(X:Cx)(t:V ->V ->Hp ->VK ->Prop):Prop:=
 ∀(pins:aV) (s:Shared) (σ:St) (H:Hp) (o i:V) (ov iv:Value) (Q:VK),Inv X pins σ H s ->RelV o ov ->RelV i iv ->t o i H Q ->
  wpAny (model X.prog X.w) X.A (getItem ov iv) (EP X pins σ Q) X.xe s
def ipI(f:Int ->Int ->Int):Et:=fun x y H Q=>∃i j,x= .int i/\y= .int j/\Q (.int (f i j)) H
end
section
variable{X:Cx}{pos:Pos}
def vW(c:TT)(tb:TS):TS:=fun D σ H=>∃W:Nat ->St ->Hp ->Prop,(∃m,W m σ H)/\∀m σ H,W m σ H ->
 c σ H fun b H1=>if b=true then∃N:St ->Hp ->Prop,(∀σ' H',N σ' H' ->∃m',m' <m/\W m' σ' H')/\tb {D with nx:=N,ct:=N,bk:=D.nx} σ H1 else D.nx σ H1
theorem Za{c:Expr}{body:List Stmt}{tc:TT}{tb:TS}(hp:PassesOwn (model X.prog X.w) X.A X.env X.xe)(hc:PT X c tc)(hb:pG X body tb):PS X (.While c body [] pos) (vW tc tb):=by
 intro pins s σ H D I h;obtain⟨W,⟨m0,w0⟩,turn⟩:=h;refine wpAny_While (codeAny_whileLoop (fun n s' =>∃σ' H',Inv X pins σ' H' s' /\W n σ' H') ?_ m0 ⟨σ,H,I,w0⟩);rintro n s1 ⟨σ1,H1,I1,w1⟩;refine wpAny_passesOwn hp (aY (hc pins s1 σ1 H1 _ I1 (turn n σ1 H1 w1)) fun b s2 ⟨H2,I2,q2⟩=> ?_);cases b with
 | true=>
  obtain⟨N,hN,q2⟩:=q2;rw[if_pos rfl];refine wpAny_passesOwn hp (aY (hb pins s2 σ1 H2 _ I2 q2) fun f s3 q3=> ?_);cases f with
  | next=>
   obtain⟨σ3,H3,I3,n3⟩:=q3;obtain⟨m',hm,w3⟩:=hN σ3 H3 n3;exact⟨m',hm,σ3,H3,I3,w3⟩
  | cont=>
   obtain⟨σ3,H3,I3,n3⟩:=q3;obtain⟨m',hm,w3⟩:=hN σ3 H3 n3;exact⟨m',hm,σ3,H3,I3,w3⟩
  | brk=>exact q3
  | ret v=>exact q3
 | false=>
  rw[if_neg Bool.false_ne_true];exact wpAny_execs_nil ⟨σ1,H2,I2,q2⟩
end
structure It where
 go:Nat ->Hp ->Prop
 yld:Nat ->Hp ->V ->Hp ->Prop
 stop:Nat ->Hp ->Prop
def fH(X:Cx)(pins:aV)(H:Hp)(b:Addr):Prop:=
 H b=none/\b≠X.env.locals/\b∉X.fs/\ (b∈X.ex\/X.s₀.heap.objs.size<=b)/\ (∀x c,X.env.cells.lookup x=some c ->c≠b)/\∀p∈X.pn++pins,p.1≠b
theorem Inv.fpOk{X:Cx}{pins:aV}{σ:St}{H H' :Hp}{s:Shared}{b:Addr}(I:Inv X pins σ H s)(hb:s.heap.objs.size<=b)(hn:H' b=none):fH X pins H' b:=by
 refine⟨hn,Nat.ne_of_gt (zN I.lt hb),I.nofs hb,.inr (zP I.sz hb),fun x c e z=> ?_,fun p hp z=> ?_⟩
 ·obtain⟨v,q⟩:=I.cell x c e;exact absurd (zN q.lt (by rw[z];exact hb)) (zG _)
 ·exact absurd (zN (zK (I.pin p hp).1) (by rw[z];exact hb)) (zG _)
structure Turn (P:Program) (w:World) (K:W.Frag) (tg:Expr) (J:It) (fp:List Addr) (it:Addr) (tn:Nat ->Heap ->Prop):Prop where
 mem:it∈fp
 obj:∀i h,tn i h ->∀b∈fp,∃o,h.get? b=some o/\∀v,o.data≠ .cell v
 keep:∀i h h',tn i h ->(∀b∈fp,∀o,h.get? b=some o ->h'.get? b=some o) ->tn i h'
 item:∀(X:Cx),X.prog=P ->X.w=w ->X.K=K ->X.calm=true ->∀(i:Nat) (pins:aV) (s:Shared) (σ:St) (H:Hp) (E:bf),Inv X pins σ H s ->(∀b∈fp,fH X pins H b) ->tn i s.heap ->J.go i H ->
  wpAny (model P w) X.A (pyNext (.ref it)) (fun r s1=>∃u,r=some u/\
   wpAny (model P w) X.A (letOwnedTupleGo tg (.ref it) u) (fun _ s2=>∃x H',Inv X pins σ H' s2/\RelV x u/\J.yld i H x H' /\tn (i+1) s2.heap/\∀b∈fp,H' b=none) E s1) E s
 done:∀(X:Cx),X.prog=P ->X.w=w ->X.K=K ->X.calm=true ->∀(i:Nat) (pins:aV) (s:Shared) (σ:St) (H:Hp) (E:bf),Inv X pins σ H s ->(∀b∈fp,fH X pins H b) ->tn i s.heap ->J.stop i H ->
  wpAny (model P w) X.A (pyNext (.ref it)) (fun r s1=>r=none/\Inv X pins σ H s1) E s
 self:∀(A:Around) (i:Nat) (s:Shared) (Q:bf) (E:bf),tn i s.heap ->Q (.ref it) s ->wpAny (model P w) A (pyIter (.ref it)) Q E s
abbrev TI:=St ->Hp ->(It ->Hp ->Prop) ->Prop
def PIE(X:Cx)(pins:aV)(σ:St)(tg:Expr)(R:It ->Hp ->Prop)(itv:Value)(s2:Shared):Prop:=
 ∃(it:Addr) (fp:List Addr) (tn:Nat ->Heap ->Prop) (J:It) (H' :Hp),itv= .ref it/\Inv X pins σ H' s2/\Turn X.prog X.w X.K tg J fp it tn/\tn 0 s2.heap/\ (∀b∈fp,fH X pins H' b)/\R J H'
def PI(X:Cx)(tg iter:Expr)(wi:TI):Prop:=
 ∀(pins:aV) (s:Shared) (σ:St) (H:Hp) (R:It ->Hp ->Prop),Inv X pins σ H s ->wi σ H R ->
  wpAny (model X.prog X.w) X.A (eval iter X.env) (fun v s1=>wpAny (model X.prog X.w) X.A (pyIter v) (PIE X pins σ tg R) X.xe s1) X.xe s
theorem Eu{M:Model}{A:Around}{E:bf}{s:Shared}{tg:Expr}{it:Addr}{u:Value}{o:Obj}{n:String}{vs:Array Value}{Q:Unit ->Shared ->Prop}(ho:s.heap.get? it=some o)(hc:o.cls= .type n)(hd:o.data= .fields vs)
  (hn: ["enumerate","zip","dict_itemiterator","dict_reverseitemiterator","odict_iterator","itertools.zip_longest","itertools.pairwise"].contains n=false) (hQ:Q () s):wpAny M A (letOwnedTupleGo tg (.ref it) u) Q E s:=by
 unfold letOwnedTupleGo;cases tg<;>first
  | exact z7 hQ
  | (
    cases u<;>first
    | exact z7 hQ
    | (
      refine z6 (wpAny_load ho ?_);rw[hc,hd];show wpAny M A (if (["enumerate","zip","dict_itemiterator","dict_reverseitemiterator","odict_iterator","itertools.zip_longest","itertools.pairwise"].contains n&&vs[0]?==some (rawInt _))=true then _ else _) Q E s;rw[if_neg (by intro h;rw[hn,Bool.false_and] at h;cases h)]
      exact z7 hQ))
def vX(K:W.Frag)(a:Addr):It:=
 ⟨fun i H=>∃xs x,dW K H a xs/\xs[i]?=some x,fun i H x H' =>H' =H/\∀xs,dW K H a xs ->xs[i]?=some x,fun i H=>∃xs,dW K H a xs/\xs.length<=i⟩
def uY(K:W.Frag)(a:Addr):It:=
 ⟨fun i H=>∃xs x,iw K H a xs/\xs[i]?=some x,fun i H x H' =>H' =H/\∀xs,iw K H a xs ->xs[i]?=some x,fun i H=>∃xs,iw K H a xs/\xs.length<=i⟩
def tH(lo:Int)(n:Nat):It:=⟨fun i _=>i<n,fun i H x H' =>H' =H/\x= .int (lo+i),fun i _=>n<=i⟩
theorem Qz{P:Program}{w:World}{K:W.Frag}{tg:Expr}(a it:Addr):Turn P w K tg (vX K a) [it] it (fun i h=>h.IsListIter it a i) where
 mem:=by simp
 obj:=fun i h st b hb=>by
  have e:b=it:=by simpa using hb
  subst e;obtain⟨o,e,c,d⟩:=st;exact⟨o,e,fun v z=>by rw[d] at z;cases z⟩
 keep:=fun i h h' st k=>st.at fun o e=>k it (by simp) o e
 item:=by
  intro X hP hw hK hc i pins s σ H E I hf st hg;subst hP hw hK;obtain⟨xs,x,hq,hx⟩:=hg;obtain⟨its,rv,p,hz⟩:=I.list hq;obtain⟨u,hu,ru⟩:=rv.get hx;obtain⟨f0,f1,f2,f3,f4,f5⟩:=hf it (by simp)
  refine wpAny_pyNext_list_item st p.isList (x:=u) (by simpa using hu) fun h' st' sb=> ?_
  have I1:Inv X pins σ H {s with heap:=h'}:=I.turned (t' :=s.toks) (fun b o hb e=>(sb.2 b hb).trans e) f0 f1 f3 f4 f5;obtain⟨o,e,c,d⟩:=id st';exact⟨u,rfl,Eu (s:={s with heap:=h'}) e c d (by decide) ⟨x,H,I1,ru,⟨rfl,fun ys hy=>by rw[I.list_inj hy hq];exact hx⟩,st',fun b hb=>(hf b hb).1⟩⟩
 done:=by
  intro X hP hw hK hc i pins s σ H E I hf st hg;subst hP hw hK;obtain⟨xs,hq,hx⟩:=hg;obtain⟨its,rv,p,hz⟩:=I.list hq;obtain⟨f0,f1,f2,f3,f4,f5⟩:=hf it (by simp)
  have hl:=rv.length;exact wpAny_pyNext_list_end (I.ok.hd hc) st p.isList (by simp;omega) fun h' eb=>⟨rfl,I.turned (t' :=s.toks) (fun b o hb e=>eb b o hb e) f0 f1 f3 f4 f5⟩
 self:=fun _ _ _ _ _ st h=>wpAny_pyIter_listiter st h
theorem QB{P:Program}{w:World}{K:W.Frag}{tg:Expr}(a it:Addr):Turn P w K tg (uY K a) [it] it (fun i h=>h.IsTupleIter it a i) where
 mem:=by simp
 obj:=fun i h st b hb=>by
  have e:b=it:=by simpa using hb
  subst e;obtain⟨o,e,c,d⟩:=st;exact⟨o,e,fun v z=>by rw[d] at z;cases z⟩
 keep:=fun i h h' st k=>st.at fun o e=>k it (by simp) o e
 item:=by
  intro X hP hw hK hc i pins s σ H E I hf st hg;subst hP hw hK;obtain⟨xs,x,hq,hx⟩:=hg;obtain⟨its,rv,p,hz⟩:=I.tuple hq;obtain⟨u,hu,ru⟩:=rv.get hx;obtain⟨f0,f1,f2,f3,f4,f5⟩:=hf it (by simp)
  refine wpAny_pyNext_tuple_item st (show s.heap.IsTuple a its.toArray from p) (x:=u) (by simpa using hu) fun h' st' sb=> ?_
  have I1:Inv X pins σ H {s with heap:=h'}:=I.turned (t' :=s.toks) (fun b o hb e=>(sb.2 b hb).trans e) f0 f1 f3 f4 f5;obtain⟨o,e,c,d⟩:=id st';exact⟨u,rfl,Eu (s:={s with heap:=h'}) e c d (by decide) ⟨x,H,I1,ru,⟨rfl,fun ys hy=>by rw[I.tuple_inj hy hq];exact hx⟩,st',fun b hb=>(hf b hb).1⟩⟩
 done:=by
  intro X hP hw hK hc i pins s σ H E I hf st hg;subst hP hw hK;obtain⟨xs,hq,hx⟩:=hg;obtain⟨its,rv,p,hz⟩:=I.tuple hq;obtain⟨f0,f1,f2,f3,f4,f5⟩:=hf it (by simp)
  have hl:=rv.length;exact wpAny_pyNext_tuple_end (I.ok.hd hc) st (show s.heap.IsTuple a its.toArray from p) (by simp;omega) fun h' eb=>⟨rfl,I.turned (t' :=s.toks) (fun b o hb e=>eb b o hb e) f0 f1 f3 f4 f5⟩
 self:=fun _ _ _ _ _ st h=>wpAny_pyIter_tupleiter st h
theorem Zb{P:Program}{w:World}{K:W.Frag}{tg:Expr}(it:Addr)(lo:Int)(n:Nat):Turn P w K tg (tH lo n) [it] it (fun i h=>IsRangeIter h it (lo+ (i:Nat)*1) ((n:Int) - (i:Nat)) 1) where
 mem:=by simp
 obj:=fun i h st b hb=>by
  have e:b=it:=by simpa using hb
  subst e;exact⟨_,st,fun v z=>by
   have z' :Data.fields _=Data.cell v:=z;cases z'⟩
 keep:=fun i h h' st k=>k it (by simp) _ st
 item:=by
  intro X hP hw hK hc i pins s σ H E I hf st hg;subst hP hw hK;obtain⟨f0,f1,f2,f3,f4,f5⟩:=hf it (by simp)
  have W:=Walks.range (prog:=X.prog) (w:=X.w) (I.ok.hd hc) it lo 1 n;refine W.item i s _ _ hg st fun v h' tk hv st' kk=> ?_;obtain⟨t,rfl⟩:=hv;have I1:Inv X pins σ H {s with heap:=h',toks:=tk}:=I.turned (fun b o hb e=>kk b o (by simpa using hb) e) f0 f1 f3 f4 f5
  refine⟨_,rfl,Eu (s:={s with heap:=h',toks:=tk}) (n:= "range_iterator") st' rfl rfl (by decide) ⟨.int (lo+i),H,I1,⟨t,?_⟩,⟨rfl,rfl⟩,st',fun b hb=>(hf b hb).1⟩⟩
  rw[Int.mul_one]
 done:=by
  intro X hP hw hK hc i pins s σ H E I hf st hg;subst hP hw hK;obtain⟨f0,f1,f2,f3,f4,f5⟩:=hf it (by simp)
  exact wpAny_pyNext_range_end (I.ok.hd hc) st (by have:n<=i:=hg;omega) fun h' eb=>⟨rfl,I.turned (t' :=s.toks) (fun b o hb e=>eb b o hb e) f0 f1 f3 f4 f5⟩
 self:=fun _ _ _ _ _ st h=>wpAny_pyIter_rangeiter st h
section
variable{X:Cx}{tg:Expr}
def QC(K:W.Frag)(tl:TE):TI:=fun σ H R=>tl σ H fun x H1=>∃a,x= .ref a/\ (∃xs,dW K H1 a xs)/\R (vX K a) H1
def Zc(K:W.Frag)(tl:TE):TI:=fun σ H R=>tl σ H fun x H1=>∃a,x= .ref a/\ (∃xs,iw K H1 a xs)/\R (uY K a) H1
theorem Zd{pins:aV}{σ:St}{H:Hp}{s:Shared}{R:It ->Hp ->Prop}{E:bf}{lo hi:Int}{t u v:Tok}{tk:Nat}(I:Inv X pins σ H s)(h1: -(2^62)<=lo)(h2:lo<2^62)(h3: -(2^62)<=hi)(h4:hi<2^62)
  (q:R (tH lo (hi - lo).toNat) H):wpAny (model X.prog X.w) X.A (pyIter (.ref s.heap.objs.size)) (PIE X pins σ tg R) E {s with heap:=s.heap.push {cls:= .type "range",data:= .fields #[.int lo t,.int hi u,.int 1 v]},toks:=tk}:=by
 refine wpAny_pyIter_range (IsRange.new ..) (small_one h1 h2 h3 h4) ?_;have I1:Inv X pins σ H {s with heap:=s.heap.push {cls:= .type "range",data:= .fields #[.int lo t,.int hi u,.int 1 v]},toks:=tk}:=I.kept fun b o e=>z8 _ e;refine⟨(s.heap.push {cls:= .type "range",data:= .fields #[.int lo t,.int hi u,.int 1 v]}).objs.size,[(s.heap.push {cls:= .type "range",data:= .fields #[.int lo t,.int hi u,.int 1 v]}).objs.size],_,_,H,rfl,
  I1.kept (t' :=tk) fun b o e=>z8 _ e,Zb _ lo (hi - lo).toNat,?_,fun b hb=> ?_,q⟩
 ·have e1:lo+ ((0:Nat):Int)*1=lo:=by simp
  have e2:(((hi - lo).toNat:Nat):Int) - ((0:Nat):Int)=Builtin.Range.rangeSize lo hi 1:=by rw[rangeSize_one];split<;>omega
  show IsRangeIter _ _ (lo+ ((0:Nat):Int)*1) ((((hi - lo).toNat:Nat):Int) - ((0:Nat):Int)) 1;rw[e1,e2];exact z9 _ rfl
 ·have e:b=(s.heap.push {cls:= .type "range",data:= .fields #[.int lo t,.int hi u,.int 1 v]}).objs.size:=by simpa using hb
  subst e;exact I1.fpOk (zO _) (I1.hok.fresh (zO _))
def zF(ta:TA):TI:=fun σ H R=>ta σ H fun vs H1=>∃j:Int,vs= [.int j]/\ -(2^62)<=j/\j<2^62/\R (tH 0 j.toNat) H1
def QD(ta:TA):TI:=fun σ H R=>ta σ H fun vs H1=>∃i j:Int,vs= [.int i,.int j]/\ (-(2^62)<=i/\i<2^62/\ -(2^62)<=j/\j<2^62)/\R (tH i (j - i).toNat) H1
theorem Ze{a:Expr}{ta:TA}{p pos:Pos}(hg:Gl X "range")(hm:X.mg "range" =none)(ha:PA X [a] ta)(hs:starEach [a] X.env= [(false,eval a X.env)]:=by rfl):PI X tg (.Call (.Name "range" p) [a] [] pos) (zF ta):=by
 intro pins s σ H R I h;refine Call_ (uX I hg hm boot_range (PyProof.Rows.callWith_type1 (aY (ha pos pins s σ H _ I h) fun us s1 ⟨vs,H1,I1,r1,q1⟩=> ?_) hs rfl));obtain⟨j,e,q1,q2,q⟩:=q1;subst e;cases r1 with
 | cons r rr=>
  cases rr;obtain⟨t,rfl⟩:=r;exact call_range_1 (Zd I1 (by omega) (by omega) q1 q2 (by simpa using q))
def Ja(wi:TI)(g:TG)(tb:TS):TS:=fun D σ H=>wi σ H fun J H1=>∃W:Nat ->Nat ->St ->Hp ->Prop,(∃m,W 0 m σ H1)/\∀i m σ H,W i m σ H ->
 (J.stop i H/\D.nx σ H)\/ (J.go i H/\∃N:St ->Hp ->Prop,(∀σ' H',N σ' H' ->∃m',m' <m/\W (i+1) m' σ' H')/\∀x H',J.yld i H x H' ->g x σ H' fun σ2 H2=>tb {D with nx:=N,ct:=N,bk:=D.nx} σ2 H2)
def jz(fp:List Addr)(h:Heap):aV:=fp.filterMap fun b=>(h.get? b).map fun o=>(b,o)
theorem Ew{fp:List Addr}{h:Heap}{b:Addr}{o:Obj}(hb:b∈fp)(e:h.get? b=some o):(b,o)∈jz fp h:=List.mem_filterMap.mpr ⟨b,hb,by rw[e];rfl⟩
theorem Zf{fp:List Addr}{h:Heap}{p:Addr×Obj}(hp:p∈jz fp h):p.1∈fp/\h.get? p.1=some p.2:=by
 obtain⟨b,hb,e⟩:=List.mem_filterMap.mp hp;cases q:h.get? b with
 | none=>rw[q] at e;cases e
 | some o=>
  rw[q] at e;have e' :(b,o)=p:=zJ e;subst e';exact⟨hb,q⟩
theorem Inv.pinned{pins:aV}{σ:St}{H:Hp}{s:Shared}{fp:List Addr}(I:Inv X pins σ H s)(hf:∀b∈fp,fH X pins H b)(ho:∀b∈fp,∃o,s.heap.get? b=some o/\∀v,o.data≠ .cell v):Inv X (pins++jz fp s.heap) σ H s:=
 I.pins_of fun p hp=>(zU.mp hp).elim (fun z=>I.pin p (zR _ z)) fun z=>by
  obtain⟨hb,e⟩:=Zf z;obtain⟨f0,f1,f2,_⟩:=hf p.1 hb;obtain⟨o,e',d⟩:=ho p.1 hb;rw[e] at e';cases e';exact⟨e,f0,f1,f2,d⟩
theorem Inv.unpinned{pins pl:aV}{σ:St}{H:Hp}{s:Shared}(I:Inv X (pins++pl) σ H s):Inv X pins σ H s:=I.pins_of fun p hp=>I.pin p (zR _ (zQ _ hp))
theorem Ey{iter:Expr}{body:List Stmt}{wi:TI}{g:TG}{tb:TS}{pos:Pos}(hp:PassesOwn (model X.prog X.w) X.A X.env X.xe)(hc:X.calm=true)(hi:PI X tg iter wi)(hg:PG X tg g)(hb:pG X body tb)
  (hs:∀x,foldedSetIterable iter X.env x=pure x:=by intro _;rfl):PS X (.For tg iter body [] pos) (Ja wi g tb):=by
 intro pins s σ H D I h;refine wpAny_For (aY (hi pins s σ H _ I h) fun v s1 h1=>aY h1 fun itv s2 h2=> ?_) hs;obtain⟨it,fp,tn,J,H2,e,I2,T,st2,f2,W,⟨m0,w0⟩,turn⟩:=h2;subst e
 
 have stat:∀{H' :Hp},(∀b∈fp,H' b=none) ->∀b∈fp,fH X pins H' b:=fun hn b hb=>⟨hn b hb,(f2 b hb).2⟩;refine codeAny_forLoop_any (fun n s' =>∃i σ' H',Inv X pins σ' H' s' /\tn i s'.heap/\ (∀b∈fp,H' b=none)/\W i n σ' H') ?_ m0 ⟨0,σ,H2,I2,st2,fun b hb=>(f2 b hb).1,w0⟩;rintro n s3 ⟨i,σ3,H3,I3,st3,QH,w3⟩;rcases turn i n σ3 H3 w3 with ⟨stop,qn⟩ | ⟨go,N,hN,step⟩
 ·refine wpAny_passesOwn hp (aY (T.done X rfl rfl rfl hc i pins s3 σ3 H3 X.xe I3 (stat QH) st3 stop) fun r s4 ⟨hr,I4⟩=> ?_);subst hr;exact wpAny_execs_nil ⟨σ3,H3,I4,qn⟩
 ·refine wpAny_passesOwn hp (aY (T.item X rfl rfl rfl hc i pins s3 σ3 H3 X.xe I3 (stat QH) st3 go) fun r s4 ⟨u,hr,h4⟩=> ?_);subst hr;refine wpAny_passesOwn hp (aY h4 fun _ s5 Jb=> ?_);obtain⟨x,H5,I5,r5,y5,yp,Ez⟩:=Jb;have Jc :=I5.pinned (stat Ez) (T.obj _ _ yp);refine wpAny_passesOwn hp (aY (hg _ s5 σ3 H5 x u _ Jc r5 (step x H5 y5)) fun _ s6 ⟨σ6,H6,I6,q6⟩=> ?_);refine wpAny_passesOwn hp (aY (hb _ s6 σ6 H6 _ I6 q6) fun f s7 q7=> ?_);have again:∀{σ7:St} {H7:Hp},Inv X (pins++jz fp s5.heap) σ7 H7 s7 ->N σ7 H7 ->∃m,m<n/\∃i σ' H',Inv X pins σ' H' s7/\tn i s7.heap/\ (∀b∈fp,H' b=none)/\W i m σ' H' :=fun{σ7 H7} I7 n7=>by
   obtain⟨m',hm,w7⟩:=hN σ7 H7 n7;refine⟨m',hm,i+1,σ7,H7,I7.unpinned,T.keep _ _ _ yp fun b hb o e=>(I7.pin (b,o) (zR _ (zR _ (Ew hb e)))).1,fun b hb=> ?_,w7⟩;obtain⟨o,e,d⟩:=T.obj _ _ yp b hb;exact(I7.pin (b,o) (zR _ (zR _ (Ew hb e)))).2.1
  cases f with
  | next=>obtain⟨σ7,H7,I7,n7⟩:=q7;exact again I7 n7
  | cont=>obtain⟨σ7,H7,I7,n7⟩:=q7;exact again I7 n7
  | brk=>obtain⟨σ7,H7,I7,q7⟩:=q7;exact⟨σ7,H7,I7.unpinned,q7⟩
  | ret v=>obtain⟨x7,σ7,H7,I7,r7,q7⟩:=q7;exact⟨x7,σ7,H7,I7.unpinned,r7,q7⟩
end
theorem QJ{K:W.Frag}{a:Addr}{xs:List V}{g:TG}{tb:TS}{D:Ends}{σ:St}{H:Hp}(Pv:Nat ->St ->Hp ->Prop)(h0:Pv 0 σ H)(hl:∀i σ H,i<=xs.length ->Pv i σ H ->dW K H a xs)
  (hs:∀i x σ H,xs[i]?=some x ->Pv i σ H ->g x σ H fun σ2 H2=>tb {D with nx:=Pv (i+1),ct:=Pv (i+1),bk:=D.nx} σ2 H2) (hd:∀σ H,Pv xs.length σ H ->D.nx σ H):
  ∃W:Nat ->Nat ->St ->Hp ->Prop,(∃m,W 0 m σ H)/\∀i m σ H,W i m σ H ->
   ((vX K a).stop i H/\D.nx σ H)\/ ((vX K a).go i H/\∃N:St ->Hp ->Prop,(∀σ' H',N σ' H' ->∃m',m' <m/\W (i+1) m' σ' H')/\∀x H',(vX K a).yld i H x H' ->g x σ H' fun σ2 H2=>tb {D with nx:=N,ct:=N,bk:=D.nx} σ2 H2):=by
 refine⟨fun i m σ H=>m=xs.length - i/\i<=xs.length/\Pv i σ H,⟨xs.length,by simp,Nat.zero_le _,h0⟩,?_⟩
 rintro i m σ H ⟨rfl,hi,p⟩;have q:=hl i σ H hi p;by_cases hlt:i<xs.length
 ·refine .inr ⟨⟨xs,xs[i],q,by simp [hlt]⟩,Pv (i+1),fun σ' H' p' =>⟨xs.length - (i+1),by omega,rfl,hlt,p'⟩,fun x H' y=> ?_⟩
  obtain⟨e,y⟩:=y;subst e;exact hs i x σ _ (y xs q) p
 ·have e:i=xs.length:=by omega
  subst e;exact .inl ⟨⟨xs,q,zO _⟩,hd σ H p⟩
theorem Zg{K:W.Frag}{a:Addr}{xs:List V}{g:TG}{tb:TS}{D:Ends}{σ:St}{H:Hp}(Pv:Nat ->St ->Hp ->Prop)(h0:Pv 0 σ H)(hl:∀i σ H,i<=xs.length ->Pv i σ H ->iw K H a xs)
  (hs:∀i x σ H,xs[i]?=some x ->Pv i σ H ->g x σ H fun σ2 H2=>tb {D with nx:=Pv (i+1),ct:=Pv (i+1),bk:=D.nx} σ2 H2) (hd:∀σ H,Pv xs.length σ H ->D.nx σ H):
  ∃W:Nat ->Nat ->St ->Hp ->Prop,(∃m,W 0 m σ H)/\∀i m σ H,W i m σ H ->
   ((uY K a).stop i H/\D.nx σ H)\/ ((uY K a).go i H/\∃N:St ->Hp ->Prop,(∀σ' H',N σ' H' ->∃m',m' <m/\W (i+1) m' σ' H')/\∀x H',(uY K a).yld i H x H' ->g x σ H' fun σ2 H2=>tb {D with nx:=N,ct:=N,bk:=D.nx} σ2 H2):=by
 refine⟨fun i m σ H=>m=xs.length - i/\i<=xs.length/\Pv i σ H,⟨xs.length,by simp,Nat.zero_le _,h0⟩,?_⟩
 rintro i m σ H ⟨rfl,hi,p⟩;have q:=hl i σ H hi p;by_cases hlt:i<xs.length
 ·refine .inr ⟨⟨xs,xs[i],q,by simp [hlt]⟩,Pv (i+1),fun σ' H' p' =>⟨xs.length - (i+1),by omega,rfl,hlt,p'⟩,fun x H' y=> ?_⟩
  obtain⟨e,y⟩:=y;subst e;exact hs i x σ _ (y xs q) p
 ·have e:i=xs.length:=by omega
  subst e;exact .inl ⟨⟨xs,q,zO _⟩,hd σ H p⟩
theorem Zh{lo:Int}{n:Nat}{g:TG}{tb:TS}{D:Ends}{σ:St}{H:Hp}(Pv:Nat ->St ->Hp ->Prop)(h0:Pv 0 σ H)
  (hs:∀i σ H,i<n ->Pv i σ H ->g (.int (lo+i)) σ H fun σ2 H2=>tb {D with nx:=Pv (i+1),ct:=Pv (i+1),bk:=D.nx} σ2 H2) (hd:∀σ H,Pv n σ H ->D.nx σ H):
  ∃W:Nat ->Nat ->St ->Hp ->Prop,(∃m,W 0 m σ H)/\∀i m σ H,W i m σ H ->
   ((tH lo n).stop i H/\D.nx σ H)\/ ((tH lo n).go i H/\∃N:St ->Hp ->Prop,(∀σ' H',N σ' H' ->∃m',m' <m/\W (i+1) m' σ' H')/\∀x H',(tH lo n).yld i H x H' ->g x σ H' fun σ2 H2=>tb {D with nx:=N,ct:=N,bk:=D.nx} σ2 H2):=by
 refine⟨fun i m σ H=>m=n - i/\i<=n/\Pv i σ H,⟨n,by simp,Nat.zero_le _,h0⟩,?_⟩
 rintro i m σ H ⟨rfl,hi,p⟩;by_cases hlt:i<n
 ·refine .inr ⟨hlt,Pv (i+1),fun σ' H' p' =>⟨n - (i+1),by omega,rfl,hlt,p'⟩,fun x H' y=> ?_⟩
  obtain⟨e,y⟩:=y;subst e y;exact hs i σ _ hlt p
 ·have e:i=n:=by omega
  subst e;exact .inl ⟨zO _,hd σ H p⟩
abbrev R2:=V ->V ->Hp ->VK ->Prop
def dJ(X:Cx)(f:Value ->Value ->Sem Value)(r:R2):Prop:=
 ∀(pins:aV) (s:Shared) (σ:St) (H:Hp) (x y:V) (v u:Value) (Q:VK),Inv X pins σ H s ->RelV x v ->RelV y u ->r x y H Q ->
  wpAny (model X.prog X.w) X.A (f v u) (EP X pins σ Q) X.xe s
def Jd(X:Cx)(f:Value ->Sem Value)(r:V ->Hp ->VK ->Prop):Prop:=
 ∀(pins:aV) (s:Shared) (σ:St) (H:Hp) (x:V) (v:Value) (Q:VK),Inv X pins σ H s ->RelV x v ->r x H Q ->
  wpAny (model X.prog X.w) X.A (f v) (EP X pins σ Q) X.xe s
def bK(X:Cx)(f:Value)(r:List V ->Hp ->VK ->Prop):Prop:=
 ∀(pins:aV) (s:Shared) (σ:St) (H:Hp) (xs:List V) (us:List Value) (Q:VK),Inv X pins σ H s ->Vals xs us ->r xs H Q ->
  wpAny (model X.prog X.w) X.A (call f us) (EP X pins σ Q) X.xe s
def Zi(X:Cx)(r:V ->Hp ->(Bool ->Hp ->Prop) ->Prop):Prop:=
 ∀(pins:aV) (s:Shared) (σ:St) (H:Hp) (x:V) (v:Value) (Q:Bool ->Hp ->Prop),Inv X pins σ H s ->RelV x v ->r x H Q ->
  wpAny (model X.prog X.w) X.A (truthy v) (TP X pins σ Q) X.xe s
def Aa(r:R2)(ta tb:TE):TE:=fun σ H Q=>ta σ H fun x H1=>tb σ H1 fun y H2=>r x y H2 Q
def Zj(r:V ->Hp ->VK ->Prop)(ta:TE):TE:=fun σ H Q=>ta σ H fun x H1=>r x H1 Q
def rI(C:Int ->Int ->Prop)(g:Int ->Int ->V):R2:=fun x y H Q=>∃i j,x= .int i/\y= .int j/\C i j/\Q (g i j) H
def uZ(g:Int ->Int ->V):R2:=fun x y H Q=>∃i j,x= .int i/\y= .int j/\Q (g i j) H
def rU(g:Int ->V):V ->Hp ->VK ->Prop:=fun x H Q=>∃i,x= .int i/\Q (g i) H
section
variable{X:Cx}{a b c:Expr}{ta tb tc:TE}{pos:Pos}
theorem vY(ha:PE X a ta)(hb:PE X b tb){pins:aV}{s:Shared}{σ:St}{H:Hp}{R:V ->V ->Hp ->Prop}(I:Inv X pins σ H s)
  (h:ta σ H fun x H1=>tb σ H1 fun y H2=>R x y H2) {Q:bf} {f:Value ->Value ->Sem Value}
  (hf:∀v u s2 x y H2,Inv X pins σ H2 s2 ->RelV x v ->RelV y u ->R x y H2 ->wpAny (model X.prog X.w) X.A (f v u) Q X.xe s2):
  wpAny (model X.prog X.w) X.A (eval a X.env) (fun v s₁=>wpAny (model X.prog X.w) X.A (eval b X.env) (fun u s₂=>wpAny (model X.prog X.w) X.A (f v u) Q X.xe s₂) X.xe s₁) X.xe s:=by
 refine aY (ha pins s σ H _ I h) fun v s1 Je=> ?_;obtain⟨x,H1,I1,r1,q1⟩:=Je;refine aY (hb pins s1 σ H1 _ I1 q1) fun u s2 Jf=> ?_;obtain⟨y,H2,I2,r2,q2⟩:=Jf;exact hf v u s2 x y H2 I2 r1 r2 q2
theorem QK{op:Operator}{r:R2}(ho:dJ X (binaryOp op) r)(ha:PE X a ta)(hb:PE X b tb):PE X (.BinOp a op b pos) (Aa r ta tb):=by
 intro pins s σ H Q I h;exact wpAny_BinOp (vY ha hb I h fun v u s2 x y H2 I2 rx ry q=>ho pins s2 σ H2 x y v u Q I2 rx ry q)
theorem QL{op:UnaryOp}{r:V ->Hp ->VK ->Prop}(ho:Jd X (unaryOp op) r)(ha:PE X a ta):PE X (.UnaryOp op a pos) (Zj r ta):=by
 intro pins s σ H Q I h;exact UnaryOp_ (aY (ha pins s σ H _ I h) fun v s1 Jg=>by obtain⟨x,H1,I1,r1,q1⟩:=Jg;exact ho pins s1 σ H1 x v Q I1 r1 q1)
theorem EY{f:Value ->Value ->Sem Value}{C:Int ->Int ->Prop}{g:Int ->Int ->Int}
  (rule:∀(i j:Int) (t u:Tok) (s:Shared) (Q:bf) (E:bf),C i j ->Q (.int (g i j) s.toks) {s with toks:=s.toks+1} ->wpAny (model X.prog X.w) X.A (f (.int i t) (.int j u)) Q E s):
  dJ X f (rI C fun i j=> .int (g i j)):=by
 intro pins s σ H x y v u Q I rx ry h;obtain⟨i,j,rfl,rfl,hc,q⟩:=h;obtain⟨t,rfl⟩:=rx;obtain⟨t',rfl⟩:=ry;exact rule i j t t' s _ _ hc ⟨.int (g i j),H,I.tok _,⟨_,rfl⟩,q⟩
theorem Ab{f:Value ->Value ->Sem Value}{g:Int ->Int ->Int}
  (rule:∀(i j:Int) (t u:Tok) (s:Shared) (Q:bf) (E:bf),Q (.int (g i j) s.toks) {s with toks:=s.toks+1} ->wpAny (model X.prog X.w) X.A (f (.int i t) (.int j u)) Q E s):
  dJ X f (uZ fun i j=> .int (g i j)):=by
 intro pins s σ H x y v u Q I rx ry h;obtain⟨i,j,rfl,rfl,q⟩:=h;obtain⟨t,rfl⟩:=rx;obtain⟨t',rfl⟩:=ry;exact rule i j t t' s _ _ ⟨.int (g i j),H,I.tok _,⟨_,rfl⟩,q⟩
theorem vZ{f:Value ->Value ->Sem Value}{g:Int ->Int ->Bool}
  (rule:∀(i j:Int) (t u:Tok) (s:Shared) (Q:bf) (E:bf),Q (.bool (g i j)) s ->wpAny (model X.prog X.w) X.A (f (.int i t) (.int j u)) Q E s):
  dJ X f (uZ fun i j=> .bl (g i j)):=by
 intro pins s σ H x y v u Q I rx ry h;obtain⟨i,j,rfl,rfl,q⟩:=h;obtain⟨t,rfl⟩:=rx;obtain⟨t',rfl⟩:=ry;exact rule i j t t' s _ _ ⟨.bl (g i j),H,I,rfl,q⟩
def Zk(i j:Int):Prop:=0<j/\j<1073741824
def QM(i j:Int):Prop:=j≠0/\j.natAbs<1073741824
def ud(i j:Int):Prop:=0<=j/\j<=1000000/\i.natAbs<2^64
def Zm(i j:Int):Prop:=(-(2^64)<i/\i<2^64)\/ (-(2^64)<j/\j<2^64)
theorem Zn:dJ X (binaryOp .Add) (uZ fun i j=> .int (i+j)):=Ab fun _ _ _ _ _ _ _ q=>add_int q
theorem Zo:dJ X (binaryOp .Sub) (uZ fun i j=> .int (i - j)):=Ab fun _ _ _ _ _ _ _ q=>sub_int q
theorem Zq:dJ X (binaryOp .Mod) (rI (fun _ j=>j≠0) fun i j=> .int (i.fmod j)):=EY fun _ _ _ _ _ _ _ hc q=>mod_int' hc q
theorem Zr:dJ X (binaryOp .Pow) (rI ud fun i j=> .int (i^j.toNat)):=EY fun _ _ _ _ _ _ _ hc q=>pow_int_small hc.1 hc.2.1 hc.2.2 q
theorem Zt{f:Value ->Sem Value}{g:Int ->Int}
  (rule:∀(i:Int) (t:Tok) (s:Shared) (Q:bf) (E:bf),Q (.int (g i) s.toks) {s with toks:=s.toks+1} ->wpAny (model X.prog X.w) X.A (f (.int i t)) Q E s):
  Jd X f (rU fun i=> .int (g i)):=by
 intro pins s σ H x v Q I rx h;obtain⟨i,rfl,q⟩:=h;obtain⟨t,rfl⟩:=rx;exact rule i t s _ _ ⟨.int (g i),H,I.tok _,⟨_,rfl⟩,q⟩
theorem QV:Jd X (unaryOp .USub) (rU fun i=> .int (-i)):=Zt fun _ _ _ _ _ q=>neg_int q
end
def Ac:V ->V ->Bool
 | .non,.non=>true | .non,.int _=>true | .int _,.non=>true | .non,.bl _=>true | .bl _,.non=>true | .non,.str _=>true | .str _,.non=>true
 | .int _,.int _=>true | .bl _,.bl _=>true | .str _,.str _=>true | .uU _,.uU _=>true
 | .int _,.str _=>true | .str _,.int _=>true | .bl _,.str _=>true | .str _,.bl _=>true
 | _,_=>false
def rEq:R2:=fun x y H Q=>Ac x y=true/\Q (.bl (decide (x=y))) H
def rNe:R2:=fun x y H Q=>Ac x y=true/\Q (.bl (!decide (x=y))) H
section
variable{X:Cx}{a b c:Expr}{ta tb tc:TE}{pos:Pos}
theorem Zu:dJ X (compareOp .Lt) (uZ fun i j=> .bl (decide (i<j))):=vZ fun _ _ _ _ _ _ _ q=>lt_int q
theorem Zv:dJ X (compareOp .LtE) (uZ fun i j=> .bl (decide (i<=j))):=vZ fun _ _ _ _ _ _ _ q=>le_int q
theorem Zw:dJ X (compareOp .Gt) (uZ fun i j=> .bl (decide (j<i))):=vZ fun _ _ _ _ _ _ _ q=>gt_int q
def isObj:HO ->Bool
 | .lst _=>true
 | .ins _ _ _=>true
 | _=>false
theorem aR(b:Expr){op:CmpOp}(h:op≠ .In:=by decide)(h2:op≠ .NotIn:=by decide):behindInMarks op b=false:=by
 have e1:(op==CmpOp.In)=false:=by cases op<;>first | rfl | exact absurd rfl h
 have e2:(op==CmpOp.NotIn)=false:=by cases op<;>first | rfl | exact absurd rfl h2
 cases b<;>simp [behindInMarks,e1,e2]
theorem Zx{op:CmpOp}{r:R2}(ho:dJ X (compareOp op) r)(ha:PE X a ta)(hb:PE X b tb)(hm:behindInMarks op b=false):PE X (.Compare a [op] [b] pos) (Aa r ta tb):=by
 intro pins s σ H Q I h;exact wpAny_Compare1 (vY ha hb I h fun v u s2 x y H2 I2 rx ry q=>ho pins s2 σ H2 x y v u Q I2 rx ry q) hm
def u0(t:TE):TT:=fun σ H Q=>t σ H fun x H' =>∃k,x= .bl k/\Q k H'
theorem Zy{op:CmpOp}{r:R2}(ho:dJ X (compareOp op) r)(ha:PE X a ta)(hb:PE X b tb)(hm:behindInMarks op b=false):PT X (.Compare a [op] [b] pos) (u0 (Aa r ta tb)):=by
 intro pins s σ H Q I h;refine wpAny_isTrue_Compare1 (aY (ha pins s σ H _ I h) fun v s1 ⟨x,H1,I1,r1,q1⟩=>aY (hb pins s1 σ H1 _ I1 q1) fun u s2 ⟨y,H2,I2,r2,q2⟩=>
  aY (ho pins s2 σ H2 x y v u _ I2 r1 r2 q2) fun c s3 ⟨z,H3,I3,r3,k,e,q3⟩=> ?_) hm
 subst e;cases r3;exact wpAny_truthy_bool ⟨H3,I3,q3⟩
def nQ(r r' :R2)(ta tb tc:TE):TE:=fun σ H Q=>ta σ H fun x H1=>tb σ H1 fun y H2=>r x y H2 fun z H3=>∃k,z= .bl k/\
 (if k=true then tc σ H3 fun w' H4=>r' y w' H4 Q else Q (.bl false) H3)
theorem Zz{op op' :CmpOp}{r r' :R2}(ho:dJ X (compareOp op) r)(ho' :dJ X (compareOp op') r')(ha:PE X a ta)(hb:PE X b tb)(hc:PE X c tc)
  (hm:lastMarks [op,op'] [b,c]=false:=by with_unfolding_all rfl):PE X (.Compare a [op,op'] [b,c] pos) (nQ r r' ta tb tc):=by
 intro pins s σ H Q I h;refine Compare_chain (aY (ha pins s σ H _ I h) fun v s1 ⟨x,H1,I1,r1,q1⟩=>chain_link (aY (hb pins s1 σ H1 _ I1 q1) fun u s2 ⟨y,H2,I2,r2,q2⟩=>
  aY (ho pins s2 σ H2 x y v u _ I2 r1 r2 q2) fun d s3 ⟨z,H3,I3,r3,k,e,q3⟩=> ?_)) hm
 subst e;cases r3;refine wpAny_truthy_bool ?_;cases k with
 | false=>exact ite_ff ⟨.bl false,H3,I3,rfl,q3⟩
 | true=>exact ite_tt (chain_last (aY (hc pins s3 σ H3 _ I3 q3) fun w' s4 Jh=>by obtain⟨z',H4,I4,r4,q4⟩:=Jh;exact ho' pins s4 σ H4 y z' u w' Q I4 r2 r4 q4))
theorem ZC{op op' :CmpOp}{r r' :R2}(ho:dJ X (compareOp op) r)(ho' :dJ X (compareOp op') r')(ha:PE X a ta)(hb:PE X b tb)(hc:PE X c tc)
  (hm:lastMarks [op,op'] [b,c]=false:=by with_unfolding_all rfl):PT X (.Compare a [op,op'] [b,c] pos) (u0 (nQ r r' ta tb tc)):=by
 intro pins s σ H Q I h;refine isTrue_chain (aY (ha pins s σ H _ I h) fun v s1 ⟨x,H1,I1,r1,q1⟩=>test_link (aY (hb pins s1 σ H1 _ I1 q1) fun u s2 ⟨y,H2,I2,r2,q2⟩=>
  aY (ho pins s2 σ H2 x y v u _ I2 r1 r2 q2) fun d s3 ⟨z,H3,I3,r3,k,e,q3⟩=> ?_)) hm
 subst e;cases r3;refine wpAny_truthy_bool ?_;cases k with
 | false=>
  obtain⟨k',e',q'⟩:=q3;cases e';exact ite_ff ⟨H3,I3,q'⟩
 | true=>
  refine ite_tt (test_last (aY (hc pins s3 σ H3 _ I3 q3) fun w' s4 ⟨z',H4,I4,r4,q4⟩=>aY (ho' pins s4 σ H4 y z' u w' _ I4 r2 r4 q4) fun d' s5 ⟨z2,H5,I5,r5,k2,e2,q5⟩=> ?_));subst e2;cases r5;exact wpAny_truthy_bool ⟨H5,I5,q5⟩
def ZD(K:W.Frag)(x:V)(H:Hp)(k:Bool):Prop:=
 match x with
 | .non=>k=false
 | .bl b=>k=b
 | .int i=>k=(i !=0)
 | .str y=>y.length<=sizeLine/\k=((y.length:Int) !=0)
 | .uU y=>y.size<=sizeLine/\k=((y.size:Int) !=0)
 | .ref p=>(∃xs,dW K H p xs/\k= !xs.isEmpty)\/ (∃xs,iw K H p xs/\k= !xs.isEmpty)\/∃kvs,H p=some (.dK kvs)/\k= !kvs.isEmpty
 | _=>False
theorem gJ:(sizeLine:Nat)<2^63:=by rw[sizeLine_eq];decide
theorem ZF:dJ X (binaryOp .Add) (fun x y H Q=>∃i j,x= .str i/\y= .str j/\i.length+j.length<=sizeLine/\Q (.str (i++j)) H):=by
 intro pins s σ H x y v u Q I rx ry h;obtain⟨i,j,rfl,rfl,hz,q⟩:=h;obtain⟨t,rfl⟩:=rx;obtain⟨t',rfl⟩:=ry;exact add_str (fun t' tk=>⟨.str (i++j),H,I.tok _,⟨_,rfl⟩,q⟩) hz
def zx7(b:Expr):Prop:=∀o i,subscripted b false o i=operate [o,i] (getItem o i)
theorem vals1{x:V}{us:List Value}(r:Vals [x] us):∃u,us= [u]/\RelV x u:=by
 cases r with
 | cons r1 r2=>cases r2;exact⟨_,rfl,r1⟩
theorem vals2{x y:V}{us:List Value}(r:Vals [x,y] us):∃u w',us= [u,w']/\RelV x u/\RelV y w' :=by
 cases r with
 | cons r1 r2=>
  cases r2 with
  | cons r3 r4=>cases r4;exact⟨_,_,rfl,r1,r3⟩
theorem ZG:bK X (.builtin "abs") (fun xs H Q=>∃i,xs= [.int i]/\Q (.int (if i<0 then -i else i)) H):=by
 intro pins s σ H xs us Q I r h;obtain⟨i,rfl,q⟩:=h;obtain⟨u,rfl,t,rfl⟩:=vals1 r;exact call_abs_int fun u tk=>⟨.int (if i<0 then -i else i),H,I.tok _,⟨_,rfl⟩,q⟩
theorem ZJ(hc:X.calm=true):bK X (.builtin "max") (fun xs H Q=>∃i j,xs= [.int i,.int j]/\Q (.int (if j>i then j else i)) H):=by
 intro pins s σ H xs us Q I r h;obtain⟨i,j,rfl,q⟩:=h;obtain⟨u,w',rfl,⟨t,rfl⟩,⟨t',rfl⟩⟩:=vals2 r;refine max_two_ints (I.ok.hd hc) fun h' tk k=>⟨_,H,I.kept k,?_,q⟩;by_cases hj:j>i
 ·rw[if_pos hj,if_pos hj];exact⟨_,rfl⟩
 ·rw[if_neg hj,if_neg hj];exact⟨_,rfl⟩
theorem ZK(hc:X.calm=true):bK X (.builtin "min") (fun xs H Q=>∃i j,xs= [.int i,.int j]/\Q (.int (if j<i then j else i)) H):=by
 intro pins s σ H xs us Q I r h;obtain⟨i,j,rfl,q⟩:=h;obtain⟨u,w',rfl,⟨t,rfl⟩,⟨t',rfl⟩⟩:=vals2 r;refine min_two_ints (I.ok.hd hc) fun h' tk k=>⟨_,H,I.kept k,?_,q⟩;by_cases hj:j<i
 ·rw[if_pos hj,if_pos hj];exact⟨_,rfl⟩
 ·rw[if_neg hj,if_neg hj];exact⟨_,rfl⟩
def ZL(K:W.Frag)(x:V)(H:Hp)(n:Nat):Prop:=
 match x with
 | .str y=>y.length<=sizeLine/\n=y.length
 | .uU y=>y.size<=sizeLine/\n=y.size
 | .ref p=>(∃xs,dW K H p xs/\n=xs.length)\/∃xs,iw K H p xs/\n=xs.length
 | _=>False
end
structure v5 (h:Heap) (x dx C:Addr) (mA:Str ->Option Value):Prop where
 obj:h.get? x=some (W.instObj C dx)
 ns:h.Ns1 dx mA
 ne:dx≠x
theorem QX{h:Heap}{dx:Addr}{mA:Str ->Option Value}(n:h.Ns1 dx mA):∃od,h.get? dx=some od/\∀name,W.lookIn name od=some (mA name):=by
 obtain⟨o,es,ep,ho,hd,hk,_,hm⟩:=n;refine⟨o,ho,fun name=> ?_⟩;have e:=hm name;unfold nsFind findBy at e;rw[<- Array.find?_toList] at e;unfold W.lookIn;rw[hd];dsimp only;split
 ·rename_i y q;rw[q] at e;exact congrArg some e
 ·rename_i q;rw[q] at e;have a:es.toList.any (·.refKey)=false:=by
   rw[List.any_eq_false];intro y hy;obtain⟨z,t,hkey⟩:=hk y (Array.mem_toList_iff.mp hy);simp [DictEntry.refKey,hkey]
  have a' :¬es.toList.any (·.refKey)=true:=by rw[a];exact zL
  rw[if_neg a'];exact congrArg some e
theorem v5.look{h:Heap}{x dx C:Addr}{mA:Str ->Option Value}(I:v5 h x dx C mA):∃od,W.InstAt h x (W.instObj C dx) C (some od)/\∀name,W.lookIn name od=some (mA name):=
 let ⟨od,ho,hl⟩:=QX I.ns
 ⟨od,⟨I.obj,rfl,rfl,ho⟩,hl⟩
section
variable{prog:Program}{w:World}{A:Around}{E:bf}{s:Shared}{K:W.Frag}{x dx C f:Addr}{mA:Str ->Option Value}{name:Str}{v:Value}
end
def v7(f:Str)(v:V):List (Str×V) ->List (Str×V)
 | []=> [(f,v)]
 | (g,x)::r=>if g=f then(g,v)::r else(g,x)::v7 f v r
theorem lW.some_of{v:V}{o:Option Value}(r:lW (some v) o):∃u,o=some u/\RelV v u:=by
 cases o with
 | none=>exact(show False from r).elim
 | some u=>exact⟨u,rfl,r⟩
theorem QZ{v:V}{u:Value}(r:RelV v u):W.handedIn u=true:=by
 cases v with
 | non=>cases (show u=Value.none from r);rfl
 | bl b=>cases (show u=Value.bool b from r);rfl
 | int i=>obtain⟨t,e⟩:=(show∃t,u=Value.int i t from r);cases e;rfl
 | str x=>obtain⟨t,e⟩:=(show∃t,u=Value.str x t from r);cases e;rfl
 | uU b=>obtain⟨t,e⟩:=(show∃t,u=Value.bytes b t from r);cases e;rfl
 | flt b=>obtain⟨t,e⟩:=(show∃t,u=Value.float b t from r);cases e;rfl
 | ref a=>cases (show u=Value.ref a from r);rfl
 | ty n=>cases (show u=Value.type n from r);rfl
section
variable{P:Program}{w:World}{H H' :Hp}{h h' :Heap}{a C dx:Addr}{fs fs' :List (Str×V)}
theorem ZM(hok:gY P w H h)(e:H a=some (.ins C dx fs)):∃mA,v5 h a dx C mA/\ (∀f,lW (fs.lookup f) (mA f))/\PySem.Within mA (fs.map (·.1))/\fs.length<=1000/\H dx=some (.own a):=by
 obtain⟨d,z,ne,ob,mA,n,r,q⟩:=(show aX P w H h a (.ins C dx fs) from hok a _ e);exact⟨mA,⟨ob,n,ne⟩,r,q,z,d⟩
end
structure Cls (K:W.Frag) (C:Addr):Prop where
 pg:W.plainGet K C Str.empty=true
 hd:W.hasDictIn K C=true
 po:W.plainOver K C=true
 sa:W.findIn K (.ref C) "__setattr__" =some (some (.builtin "object.__setattr__"))
theorem Cls.get{K:W.Frag}{C:Addr}(c:Cls K C)(f:Str):W.plainGet K C f=true:=c.pg
def bI(K:W.Frag)(C:Addr)(f:Str):Prop:=W.findIn K (.ref C) f=some none
structure ZP (K:W.Frag) (C:Addr) (f:Str) (v:V) (u:Value):Prop where
 at_:W.findIn K (.ref C) f=some (some u)
 rel:RelV v u
 get:W.specialIn K u "__get__" =some none
 cp:W.copiedNames.contains f=false
structure Meth (K:W.Frag) (C:Addr) (m:Str) (f:Addr):Prop where
 at_:W.findIn K (.ref C) m=some (some (.ref f))
 fn:W.isFn K (.ref f)=true
 kp:W.keepIn K (.ref f)=true
section
variable{X:Cx}{pins:aV}{σ:St}{H:Hp}{s:Shared}{a C dx:Addr}{fs:List (Str×V)}{f:Str}{v:V}{A:Around}{E:bf}
theorem Q0{prog:Program}{w:World}{env:Env}{e:Expr}{f:Str}{pos:Pos}{s:Shared}{Q:bf}(hb:attributeBase e f env (eval e env)=eval e env)
  (h:wpAny (model prog w) A (eval e env) (fun o s₁=>wpAny (model prog w) A (getAttr o f true) Q E s₁) E s):wpAny (model prog w) A (eval (.Attribute e f pos) env) Q E s:=
 Attribute_any_ h (by rw[arm_eval_Attribute,hb])
end
def ZQ(K:W.Frag)(ta:TE)(f:Str):TE:=fun σ H Q=>ta σ H fun x H1=>∃a C dx fs v,x= .ref a/\H1 a=some (.ins C dx fs)/\Cls K C/\bI K C f/\fs.lookup f=some v/\Q v H1
def ZR(K:W.Frag)(ta:TE)(f:Str):TE:=fun σ H Q=>ta σ H fun x H1=>∃a C dx fs v u,x= .ref a/\H1 a=some (.ins C dx fs)/\Cls K C/\ZP K C f v u/\fs.lookup f=none/\Q v H1
def ZS(K:W.Frag)(ta tv:TE)(f:Str):TS:=fun D σ H=>tv σ H fun y H1=>ta σ H1 fun x H2=>∃a C dx fs,x= .ref a/\H2 a=some (.ins C dx fs)/\Cls K C/\bI K C f/\fs.length<1000/\
 D.nx σ (upd H2 a (.ins C dx (v7 f y fs)))
def ZV(X:Cx)(op:Operator)(rd:V ->V ->Hp ->VK ->Prop):Prop:=
 ∀(pins:aV) (s:Shared) (σ:St) (H:Hp) (x y:V) (u v:Value) (Q:VK),Inv X pins σ H s ->RelV x u ->RelV y v ->rd x y H Q ->wpAny (model X.prog X.w) X.A (inplaceOp op u v) (EP X pins σ Q) X.xe s
def zyw(K:W.Frag)(ta tv:TE)(rd:V ->V ->Hp ->VK ->Prop)(f:Str):TS:=fun D σ H=>ta σ H fun x H1=>∃a C dx fs v,x= .ref a/\H1 a=some (.ins C dx fs)/\Cls K C/\bI K C f/\fs.lookup f=some v/\
 tv σ H1 fun y H2=>rd v y H2 fun z H3=>∃Ad fs',H3 a=some (.ins C Ad fs')/\fs'.length<1000/\D.nx σ (upd H3 a (.ins C Ad (v7 f z fs')))
section
variable{X:Cx}{o e value:Expr}{f:Str}{pos pos' tpos:Pos}{ta tv:TE}
def ZW:V ->V ->Hp ->VK ->Prop:=fun x y H Q=>∃i j,x= .int i/\y= .int j/\Q (.int (i+j)) H
def ZX:V ->V ->Hp ->VK ->Prop:=fun x y H Q=>∃i j,x= .int i/\y= .int j/\Q (.int (i - j)) H
end
section
variable{X:Cx}{pins:aV}{σ:St}{H:Hp}{s:Shared}{A:Around}{E:bf}{Q:bf}{c:Value}{b:Bool}
inductive jm (K:W.Frag) (H:Hp):V ->Value ->Prop where
 | non:jm K H .non (.type "NoneType")
 | bl (x:Bool):jm K H (.bl x) (.type "bool")
 | int (i:Int):jm K H (.int i) (.type "int")
 | str (x:Str):jm K H (.str x) (.type "str")
 | flt (x:UInt64):jm K H (.flt x) (.type "float")
 | lst {a:Addr} {xs:List V} (e:H a=some (.lst xs)):jm K H (.ref a) (.type "list")
 | frz {a:Addr} {o:Obj} {xs:List V} (e:H a=some (.frz o (.lst xs))):jm K H (.ref a) (.type "list")
 | tup {a:Addr} {xs:List V} (e:H a=some (.tup xs)):jm K H (.ref a) (.type "tuple")
 | dK {a:Addr} {kvs:List (Key×V)} (e:H a=some (.dK kvs)):jm K H (.ref a) (.type "dict")
 | dT {a:Addr} {kvs:List (List Key×V)} (e:H a=some (.dT kvs)):jm K H (.ref a) (.type "dict")
 | ins {a C dx:Addr} {fs:List (Str×V)} (e:H a=some (.ins C dx fs)) (cl:Cls K C) (ha:W.findIn K (.ref C) "__class__" =some (some (.builtin "object.__class__")))
   (hn:W.specialIn K (.builtin "object.__class__") "__get__" =some (some (.builtin "getset_descriptor.__get__"))) (htk:W.takesIn K (.builtin "object.__class__")=some true)
   (hm:W.mroIn K C (.type "object")=some true):jm K H (.ref a) (.ref C)
theorem Fb{x:V}{u t:Value}(I:Inv X pins σ H s)(rx:RelV x u)(ty:jm X.K H x t)(e:W.kitOne X.K t c=some b)(h:∀tk,Q (.bool b) {s with toks:=tk}):
  wpAny (model X.prog X.w) A (call (.builtin "isinstance") [u,c]) Q E s:=by
 cases ty with
 | non=>cases (show u=Value.none from rx);exact W.kia_one W.kitx_none I.kIn True.intro e (fun z=>nomatch z) h
 | bl y=>cases (show u=Value.bool y from rx);exact W.kia_one W.kitx_bool I.kIn True.intro e (fun z=>nomatch z) h
 | int i=>obtain⟨t,q⟩:=(show∃t,u=Value.int i t from rx);cases q;exact W.kia_one W.kitx_int I.kIn True.intro e (fun z=>nomatch z) h
 | str y=>obtain⟨t,q⟩:=(show∃t,u=Value.str y t from rx);cases q;exact W.kia_one W.kitx_str I.kIn True.intro e (fun z=>nomatch z) h
 | flt y=>obtain⟨t,q⟩:=(show∃t,u=Value.float y t from rx);cases q;exact W.kia_one W.kitx_float I.kIn True.intro e (fun z=>nomatch z) h
 | @lst a xs ea=>
  cases (show u=Value.ref a from rx);obtain⟨_,_,n,_,h1⟩:=(show aX X.prog X.w H s.heap a (.lst xs) from I.hok a _ ea);exact W.kia_one W.kitx_list I.kIn ⟨_,h1,rfl⟩ e (fun z=>nomatch z) h
 | @frz a ob xs ea=>
  cases (show u=Value.ref a from rx);obtain⟨_,_,_,n,_,h1⟩:=(show aX X.prog X.w H s.heap a (.frz ob (.lst xs)) from I.hok a _ ea);exact W.kia_one W.kitx_list I.kIn ⟨_,h1,rfl⟩ e (fun z=>nomatch z) h
 | @tup a xs ea=>
  cases (show u=Value.ref a from rx);obtain⟨_,_,_,p⟩:=(show aX X.prog X.w H s.heap a (.tup xs) from I.hok a _ ea);obtain⟨o,h1,h2,_⟩:=p;exact W.kia_one W.kitx_tuple I.kIn ⟨o,h1,h2⟩ e (fun z=>nomatch z) h
 | @dK a kvs ea=>
  cases (show u=Value.ref a from rx);obtain⟨_,_,vs,_,p⟩:=(show aX X.prog X.w H s.heap a (.dK kvs) from I.hok a _ ea);obtain⟨o,es,ep,h1,h2,_⟩:=p;exact W.kia_one W.kitx_dict I.kIn ⟨o,h1,h2.1⟩ e (fun z=>nomatch z) h
 | @dT a kvs ea=>
  cases (show u=Value.ref a from rx);obtain⟨_,_,xs,_,o,es,ep,h1,h2,_⟩:=(show aX X.prog X.w H s.heap a (.dT kvs) from I.hok a _ ea);exact W.kia_one W.kitx_dict I.kIn ⟨o,h1,h2.1⟩ e (fun z=>nomatch z) h
 | @ins a C dx fs ea cl ha hn htk hm=>
  cases (show u=Value.ref a from rx);obtain⟨mA,O,_⟩:=ZM I.hok ea;obtain⟨od,J,_⟩:=O.look;exact W.kia_one (W.kitx_own (cl.get _) cl.hd ha hn htk hm) I.kIn J e (fun z=>nomatch z) h
end
structure bT (k:Nat) (A:Around):Prop where
 hd:A.handled=none
 dp:A.depth+3*k+5<recursionLimit
 un:A.units+16*k+200<cLine
theorem bT.mono{j k:Nat}{A:Around}(r:bT k A)(h:j<=k):bT j A:=⟨r.hd,by have:=r.dp;omega,by have:=r.un;omega⟩
theorem bT.deeper{k:Nat}{A:Around}(r:bT (k+1) A)(env:Env):bT k (A.deeper env):=
 ⟨r.hd,by have:=r.dp;show A.depth+1+3*k+5<_;omega,by have:=r.un;show A.units+3+16*k+200<_;omega⟩
theorem Z0{A:Around}{C:Addr}{us:List Value}{kw:List (Str×Value)}:(A.under (.builtin "type.__call__" ⟨.ref C::us,kw⟩)).depth=A.depth+1:=by
 first | rfl | simp [Around.under,Code.weight,Code.isCreation,Code.isGuard,Code.isCaller,Code.frames,Code.isFrame,guardIds]
theorem Z1{A:Around}{C:Addr}{us:List Value}{kw:List (Str×Value)}:(A.under (.builtin "type.__call__" ⟨.ref C::us,kw⟩)).units=A.units+1:=by
 first | rfl | simp [Around.under,Code.cUnits,Code.frames,Code.isFrame]
theorem bT.make{k:Nat}{A:Around}(r:bT (k+1) A)(C:Addr)(us:List Value)(kw:List (Str×Value)):bT k (A.under (.builtin "type.__call__" ⟨.ref C::us,kw⟩)):=
 ⟨r.hd,by have:=r.dp;rw[Z0];omega,by have:=r.un;rw[Z1];omega⟩
theorem bT.depth{k:Nat}{A:Around}(r:bT k A):A.depth<recursionLimit:=by have:=r.dp;omega
theorem bT.units{k:Nat}{A:Around}(r:bT k A):A.units+64<cLine:=by have:=r.un;omega
def Ji:TA:=fun _ H Q=>Q [] H
def Ae(ta:TE)(tr:TA):TA:=fun σ H Q=>ta σ H fun x H1=>tr σ H1 fun xs H2=>Q (x::xs) H2
section
variable{X:Cx}{e:Expr}{es:List Expr}{te:TE}{t:TA}{pos:Pos}
theorem yq:PA X [] Ji:=fun _ _ _ _ H Q I h=>Calls.spliced_nil ⟨[],H,I,.nil,h⟩
theorem uf(ha:PE X e te)(hr:PA X es t)(hs:starEach (e::es) X.env=(false,eval e X.env)::starEach es X.env:=by rfl):PA X (e::es) (Ae te t):=by
 intro pos pins s σ H Q I h;rw[hs];show wpAny _ _ (spliced ((false,eval e X.env)::backTo pos (starEach es X.env))) _ _ s;refine Calls.spliced_cons (aY (ha pins s σ H _ I h) fun u s1 Jj=> ?_);obtain⟨x,H1,I1,r1,q1⟩:=Jj;exact aY (hr pos pins s1 σ H1 _ I1 q1) fun us s2 Jk=>by obtain⟨xs,H2,I2,r2,q2⟩:=Jk;exact⟨x::xs,H2,I2,.cons r1 r2,q2⟩
def Jl(t:TA):TE:=fun σ H Q=>t σ H fun xs H1=>xs.length<=sizeLine/\∀p,H1 p=none ->Q (.ref p) (upd H1 p (.tup xs))
def Jm(t:TA):TE:=fun σ H Q=>t σ H fun xs H1=>xs.length<=sizeLine/\∀p,H1 p=none ->Q (.ref p) (upd H1 p (.lst xs))
theorem zs2{x1}(h:PA X es t):PE X (.Tuple es x1 pos) (Jl t):=by
 intro pins s σ H Q I hq;refine wpAny_Tuple_spliced (aY (h pos pins s σ H _ I hq) fun us s1 ⟨xs,H1,I1,r,z,q⟩=>⟨by rw[<- r.length];exact z,?_⟩)
 have hf:H1 s1.heap.objs.size=none:=I1.hok.fresh (zO _);refine⟨.ref s1.heap.objs.size,upd H1 s1.heap.objs.size (.tup xs),I1.laid (t' :=s1.toks) (fun b u e=>z8 _ e) (zO _) ?_,rfl,q _ hf⟩;exact⟨z,us,r,⟨_,z9 _ rfl,rfl,_,rfl⟩⟩
theorem Z2(h:PA X es t):PE X (.List es pos) (Jm t):=by
 intro pins s σ H Q I hq;refine wpAny_List_spliced (aY (h pos pins s σ H _ I hq) fun us s1 ⟨xs,H1,I1,r,z,q⟩=>⟨by rw[<- r.length];exact z,?_⟩)
 have hf:H1 s1.heap.objs.size=none:=I1.hok.fresh (zO _);refine⟨.ref s1.heap.objs.size,upd H1 s1.heap.objs.size (.lst xs),I1.laid (t' :=s1.toks) (fun b u e=>z8 _ e) (zO _) ?_,rfl,q _ hf⟩;exact⟨z,us,0,r,z9 _ rfl⟩
end
abbrev Sp:=List V ->Hp ->VK ->XK ->Prop
abbrev qt:=List Env ->Hp ->Shared ->XK ->Value ->Shared ->Prop
structure nR (P:Program) (w:World) (K:W.Frag) (mg:Str ->Option Value) (base:Heap) (A:Around) (outer:List Env) (s:Shared) (H:Hp):Prop where
 frames:A.frames=some outer
 mod:Mod K mg base
 bs:∀b o,base.get? b=some o ->s.heap.get? b=some o/\H b=none
 tW:base.objs.size<=s.heap.objs.size
 funs:s.heap.FunFrames base outer
 uW:∀b∈frs outer,H b=none
 hok:gY P w H s.heap
 bare:AllBare s.gens
def CE(outer:List Env)(P:Program)(w:World)(H:Hp)(s:Shared)(Q:VK)(u:Value)(s' :Shared):Prop:=
 ∃v H',s'.os=s.os/\AllBare s'.gens/\Un (frs outer) [] H H' s.heap s'.heap/\gY P w H' s'.heap/\RelV v u/\Q v H'
def CR(CX:qt)(outer:List Env)(P:Program)(w:World)(H:Hp)(s:Shared)(Q:VK)(E:XK)(r:Result)(s' :Shared):Prop:=
 match r with
 | .ok (.ret u)=>CE outer P w H s Q u s'
 | .ok _=>False
 | .error e=>CX outer H s E e s'
structure cJ (P:Program) (w:World) (K:W.Frag) (mg:Str ->Option Value) (base:Heap) (CX:qt) (k:Nat) (f:Addr) (fd:FuncData) (ps:List Str) (sp:Sp):Prop where
 len:∀vs H Q E,sp vs H Q E ->vs.length=ps.length
 run:∀(A:Around) (outer:List Env) (s:Shared) (H:Hp) (args:Args) (us:List Value) (vs:List V) (Q:VK) (E:XK),bT k A ->nR P w K mg base A outer s H ->BindsTo s fd args (ps.zip us) ->Vals vs us ->sp vs H Q E ->
  codeAny (model P w) A (.call (.ref f) args) (CR CX outer P w H s Q E) s
theorem nR.make{P:Program}{w:World}{K:W.Frag}{mg:Str ->Option Value}{base:Heap}{A:Around}{outer:List Env}{s:Shared}{H:Hp}(e:nR P w K mg base A outer s H)(C:Addr)(us:List Value)(kw:List (Str×Value)):
  nR P w K mg base (A.under (.builtin "type.__call__" ⟨.ref C::us,kw⟩)) outer s H:=⟨by first | exact e.frames | (simpa [Around.under,Code.envs,Code.isFrame,pushEnvs] using e.frames),e.mod,e.bs,e.tW,e.funs,e.uW,e.hok,e.bare⟩
section
variable{X:Cx}{pins:aV}{σ:St}{H:Hp}{s s' :Shared}
theorem Inv.env0(I:Inv X pins σ H s):nR X.prog X.w X.K X.mg X.base X.A X.stack s H:=
 ⟨I.ok.frames,I.ok.mod,I.bs,zP I.ok.tW I.sz,I.stack,I.stkFree,I.hok,I.bare⟩
theorem Inv.after{Q:VK}{u:Value}(I:Inv X pins σ H s)(h:CE X.stack X.prog X.w H s Q u s'):EP X pins σ Q u s' :=by
 obtain⟨v,H',os,bare,un,hok,r,q⟩:=h;obtain⟨hh,g,d,t,os'⟩:=s';obtain rfl:os' =s.os:=os;exact⟨v,H',I.call (h' :=hh) (g' :=g) (d' :=d) (t' :=t) (ch:= []) un hok bare (fun b z=>absurd z (by simp)),r,q⟩
end
def Q5(sp:Sp)(yr:List V)(E:XK)(t:TA):TE:=fun σ H Q=>t σ H fun vs H1=>sp (vs++yr) H1 Q E
def Q6(C:Addr)(m:Str)(sp:Sp)(yr:List V)(E:XK)(ta:TE)(t:TA):TE:=fun σ H Q=>ta σ H fun x H1=>∃a dx fs,x= .ref a/\H1 a=some (.ins C dx fs)/\fs.lookup m=none/\
 t σ H1 fun vs H2=>sp (x::(vs++yr)) H2 Q E
def Q7(C:Addr)(sp:Sp)(yr:List V)(E:XK)(t:TA):TE:=fun σ H Q=>t σ H fun vs H1=>∀x dx,H1 x=none ->H1 dx=none ->dx≠x ->
 sp (.ref x::(vs++yr)) (upd (upd H1 dx (.own x)) x (.ins C dx [])) (fun v H2=>v= .non/\Q (.ref x) H2) E
def Binds(K:W.Frag)(fd:FuncData)(ps:List Str)(ds:List Value):Prop:=
 ∀(s:Shared) (us:List Value),K.In s.heap ->(us++ds).length=ps.length ->BindsTo s fd ⟨us,[]⟩ (ps.zip (us++ds))
theorem Binds.all{K:W.Frag}{fd:FuncData}{ps:List Str}(h:∀us:List Value,us.length=ps.length ->bindArgs fd ⟨us,[]⟩=pure (ps.zip us)):Binds K fd ps []:=fun s us _ hl=>by
 rw[List.append_nil] at hl⊢;exact .of_eq (h us hl)
def Passes(CX:qt)(X:Cx)(E:XK):Prop:=∀(pins:aV) (σ:St) (H:Hp) (s:Shared) (e:Value) (s' :Shared),Inv X pins σ H s ->CX X.stack H s E e s' ->X.xe e s'
section
variable{X:Cx}{CX:qt}{k:Nat}{f C:Addr}{fd:FuncData}{ps:List Str}{sp:Sp}{yr:List V}{ds:List Value}{E:XK}{x m:Str}{p pos apos:Pos}{e o:Expr}{es:List Expr}{ta:TE}{t:TA}
structure Mk (K:W.Frag) (C f:Addr):Prop where
 makes:W.makesIn K C=true
 init:W.findIn K (.ref C) "__init__" =some (some (.ref f))
 fn:W.isFn K (.ref f)=true
 kp:W.keepIn K (.ref C)=true
end
def PK(X:Cx)(kws:List Keyword)(t:TA):Prop:=
 ∀(pos:Pos) (pins:aV) (s:Shared) (σ:St) (H:Hp) (Q:List V ->Hp ->Prop),Inv X pins σ H s ->t σ H Q ->wpAny (model X.prog X.w) X.A (evalAll ((backToKw pos (keywordEach kws X.env)).map (·.2))) (AP X pins σ Q) X.xe s
section
variable{X:Cx}{CX:qt}{k:Nat}{f C:Addr}{fd:FuncData}{ps ks:List Str}{sp:Sp}{E:XK}{x m:Str}{p pos apos kpos:Pos}{e o:Expr}{es:List Expr}{kws:List Keyword}{te ta:TE}{t tk:TA}{nm:Option Str}
structure Jo (K:W.Frag) (fd:FuncData) (ps ks:List Str) (g:List Value ->List Value ->List Value) (gV:List V ->List V ->List V):Prop where
 to:∀(s:Shared) (us ws:List Value),K.In s.heap ->(g us ws).length=ps.length ->BindsTo s fd ⟨us,ks.zip ws⟩ (ps.zip (g us ws))
 rel:∀{vs:List V} {us:List Value} {zs:List V} {ws:List Value},Vals vs us ->Vals zs ws ->Vals (gV vs zs) (g us ws)
def Jp(sp:Sp)(gV:List V ->List V ->List V)(E:XK)(t tk:TA):TE:=fun σ H Q=>t σ H fun vs H1=>tk σ H1 fun zs H2=>sp (gV vs zs) H2 Q E
variable{g:List Value ->List Value ->List Value}{gV:List V ->List V ->List V}
end
structure aA (N P:List Str) (sc:Scope):Prop where
 kind:sc.kind= .function
 co:sc.isCoroutine=false
 gen:sc.isGenerator=false
 nd:N.Nodup
 pre:N.take P.length=P
 par:∀x∈P,sc.names.lookup x=some .local\/sc.names.lookup x=some .cell
 nofree:∀y∈sc.names,y.2≠ .free
theorem Q8{kindOf:Str ->Option NameKind}{x:Str}:∀{binds:List (Str×Value)} {m:Str ->Option Value},(∀v,(x,v)∉binds) ->bindL kindOf binds m x=m x
 | [],_,_=>rfl
 | (n,v)::r,m,h=>by
  unfold bindL;rw[Q8 fun w hw=>h w (List.mem_cons_of_mem _ hw)];split
  ·have:x≠n:=by rintro rfl;exact h v zY
   simp [this]
  ·rfl
theorem Q9{kindOf:Str ->Option NameKind}{x:Str}:∀{binds:List (Str×Value)} {m:Str ->Option Value},(∀v,(x,v)∉binds) ->bindC kindOf binds m x=m x
 | [],_,_=>rfl
 | (n,v)::r,m,h=>by
  unfold bindC;rw[Q9 fun w hw=>h w (List.mem_cons_of_mem _ hw)];split
  ·rfl
  ·have:x≠n:=by rintro rfl;exact h v zY
   simp [this]
theorem Ra{kindOf:Str ->Option NameKind}{x:Str}{v:Value}:∀{P:List Str} {vs:List Value} {i:Nat} {m:Str ->Option Value},P.Nodup ->P[i]?=some x ->vs[i]?=some v ->kindOf x=some .local ->
  bindL kindOf (P.zip vs) m x=some v
 | [],_,_,_,_,h,_,_=>by simp at h
 | _::_,[],_,_,_,_,h,_=>by simp at h
 | p::P,w::vs,0,m,nd,h1,h2,hk=>by
  simp at h1 h2;subst h1;subst h2;show bindL kindOf ((p,w)::P.zip vs) m p=_;unfold bindL;rw[Q8 fun v hv=>(List.nodup_cons.mp nd).1 (List.of_mem_zip hv).1,if_pos hk];simp
 | p::P,w::vs,i+1,m,nd,h1,h2,hk=>by
  show bindL kindOf ((p,w)::P.zip vs) m x=_;unfold bindL;exact Ra (i:=i) (List.nodup_cons.mp nd).2 (by simpa using h1) (by simpa using h2) hk
theorem Rf{kindOf:Str ->Option NameKind}{x:Str}{v:Value}:∀{P:List Str} {vs:List Value} {i:Nat} {m:Str ->Option Value},P.Nodup ->P[i]?=some x ->vs[i]?=some v ->kindOf x≠some .local ->
  bindC kindOf (P.zip vs) m x=some v
 | [],_,_,_,_,h,_,_=>by simp at h
 | _::_,[],_,_,_,_,h,_=>by simp at h
 | p::P,w::vs,0,m,nd,h1,h2,hk=>by
  simp at h1 h2;subst h1;subst h2;show bindC kindOf ((p,w)::P.zip vs) m p=_;unfold bindC;rw[Q9 fun v hv=>(List.nodup_cons.mp nd).1 (List.of_mem_zip hv).1,if_neg hk];simp
 | p::P,w::vs,i+1,m,nd,h1,h2,hk=>by
  show bindC kindOf ((p,w)::P.zip vs) m x=_;unfold bindC;exact Rf (i:=i) (List.nodup_cons.mp nd).2 (by simpa using h1) (by simpa using h2) hk
def start(N:List Str)(vs:List V):St:=vs.map some++List.replicate (N.length - vs.length) none
def dF(CX:qt)(P:Program)(w:World)(K:W.Frag)(mg:Str ->Option Value)(base:Heap)(N:List Str)(qual:Str)(scope:Scope)(f:Addr)(cd:Value)(A:Around)(outer:List Env)(s:Shared)(H:Hp)(E:XK):Cx where
 prog:=P
 w:=w
 K:=K
 mg:=mg
 base:=base
 A:=A.deeper (envOfC qual scope s.heap.objs.size f cd)
 N:=N
 s₀:=s
 H₀:=H
 env:=envOfC qual scope s.heap.objs.size f cd
 outer:=outer
 stack:=envOfC qual scope s.heap.objs.size f cd::outer
 ex:= []
 calm:=true
 fn:=fun _=>true
 pn:= []
 xe:=fun e s' =>wpAny (model P w) (A.deeper (envOfC qual scope s.heap.objs.size f cd)) (leaving (envOfC qual scope s.heap.objs.size f cd) e) (fun _ s'' =>CX outer H s E e s'') (fun e' s'' =>CX outer H s E e' s'') s'
theorem Rg{sc:Scope}{n:Nat}{x:Str}(h:sc.names.lookup x=some .cell):∃c,(cellsFrom n sc.names []).lookup x=some c:=by
 have q:=W.cellsFrom_some sc.names n [] (.inl h);exact Option.isSome_iff_exists.mp q
theorem Z4{CX:qt}{P:Program}{w:World}{K:W.Frag}{mg:Str ->Option Value}{base:Heap}{N ps:List Str}{qual:Str}{scope:Scope}{f:Addr}{cd:Value}{A:Around}{outer:List Env}{s s1:Shared}{H:Hp}{E:XK}{us:List Value}{vs:List V}
  (S:aA N ps scope) (hd:A.handled=none) (e0:nR P w K mg base A outer s H) (hl:vs.length=ps.length) (r:Vals vs us)
  (x:InCallC s s.heap.objs.size (bindL (envOfC qual scope s.heap.objs.size f cd).kindOf (ps.zip us) fun _=>none) (cellsFrom (s.heap.objs.size+1) scope.names []) (bindC (envOfC qual scope s.heap.objs.size f cd).kindOf (ps.zip us) fun _=>none) s1):
  Inv (dF CX P w K mg base N qual scope f cd A outer s H E) [] (start N vs) H s1:=by
 have hpl:ps.length<=N.length:=by have:=congrArg List.length S.pre;rw[List.length_take] at this;omega
 obtain⟨h1,tk,rfl,hk⟩:=x.done;have Af:∀b:Addr,b∉ (dF CX P w K mg base N qual scope f cd A outer s H E).ex:=fun b z=>absurd (show b∈ ([]:List Addr) from z) (by simp)
 refine⟨⟨e0.mod,S.kind,rfl,rfl,zO _,fun y z c h1 h2=> ?_,fun y hy=> ?_,fun y c _ h=> ?_,fun _=>hd,Around.frames_deeper e0.frames,.inr ⟨rfl,rfl⟩,fun b z=>absurd z (Af b),e0.bs,e0.tW,fun b _ _=>Af b,fun b z=>absurd z (Af b),e0.funs,e0.uW⟩,
  rfl,e0.bare,Un.kept hk,⟨_,x.toInCall.ns,fun i y v h1 h2 h3=> ?_⟩,fun y c h=>⟨_,x.cell y c h⟩,e0.hok.fresh (zO _),fun y c h=> ?_,fun p hp=>absurd (show p∈ ([]:aV) from hp) (by simp),e0.hok.kept hk,?_⟩
 ·exact name_of_addr x.apart (PySem.mem_of_lookup h1) (PySem.mem_of_lookup h2)
 ·have hy:scope.names.lookup y=some .cell\/scope.names.lookup y=some .free:=hy;rcases hy with hy | hy
  ·exact Rg hy
  ·exact absurd rfl (S.nofree _ (PySem.mem_of_lookup hy))
 ·exact Nat.le_of_lt (x.above y c (PySem.mem_of_lookup h))
 ·have hi:i<vs.length:=by
   unfold start at h2;by_cases hi:i<vs.length
   ·exact hi
   ·rw[List.getElem?_append_right (by simpa using hi)] at h2
    rw[List.getElem?_replicate] at h2;split at h2<;>cases h2
  have ha:vs[i]?=some v:=by
   unfold start at h2;rw[List.getElem?_append_left (by simpa using hi),List.getElem?_map] at h2
   cases e:vs[i]? with
   | none=>rw[e] at h2;cases h2
   | some a=>rw[e] at h2;cases h2;rfl
  obtain⟨u,hu,rv⟩:=r.get ha;have hp:ps[i]?=some y:=by
   rw[<- S.pre,List.getElem?_take_of_lt (by omega)];exact h1
  have Rh:ps.Nodup:=by rw[<- S.pre];exact S.nd.sublist (List.take_sublist _ _)
  refine⟨u,rv,?_⟩;rcases S.par y (List.mem_of_getElem? hp) with k | k
  ·exact .inl ⟨k,Ra Rh hp hu k⟩
  ·obtain⟨c,e⟩:=Rg (n:=s.heap.objs.size+1) k;refine .inr ⟨.inl k,c,e,?_⟩;have q:=x.cell y c e;rw[Rf Rh hp hu (by show scope.names.lookup y≠_;rw[k];decide)] at q
   exact q
 ·exact e0.hok.fresh (Nat.le_of_lt (x.above y c (PySem.mem_of_lookup h)))
 ·unfold start;show _=N.length;rw[List.length_append,List.length_map,List.length_replicate];omega
theorem Fd{CX:qt}{P:Program}{w:World}{K:W.Frag}{mg:Str ->Option Value}{base:Heap}{k:Nat}{f:Addr}{name qual:Str}{params:Arguments}{body:List Stmt}{scope:Scope}{dV kV doc pm cdv ct oc:Value}{an od:Option Addr}
  {osl:Array (Option Value)} {N ps:List Str} {sp:Sp} (lk:K.lookup f=some ⟨oc,od,.func (W.fnOf name qual params body scope dV kV doc pm an cdv ct),osl⟩) (hcd:W.codeIn K cdv qual=true) (S:aA N ps scope)
  (len:∀vs H Q E,sp vs H Q E ->vs.length=ps.length)
  (hbody:∀(A:Around) (outer:List Env) (s:Shared) (H:Hp) (vs:List V) (Q:VK) (E:XK),bT k (A.deeper (envOfC qual scope s.heap.objs.size f cdv)) ->sp vs H Q E ->
   ∃t,pG (dF CX P w K mg base N qual scope f cdv A outer s H E) body t/\t {nx:=fun _ H' =>Q .non H',rt:=Q} (start N vs) H):
  cJ P w K mg base CX (k+1) f (W.fnOf name qual params body scope dV kV doc pm an cdv ct) ps sp:=by
 refine⟨len,fun A outer s H args us vs Q E hr e0 hb r hsp=> ?_⟩;have hl:=len _ _ _ _ hsp;have KX:K.In s.heap:=e0.mod.zm.keeps fun b o e=>(e0.bs b o e).1;have lim:s.heap.NoLimit:=e0.mod.nolimit.keeps fun b o e=>(e0.bs b o e).1;have hkind:∀y∈ps.zip us,scope.names.lookup y.1=some .local\/ (scope.names.lookup y.1=some .cell/\ ((cellsFrom (s.heap.objs.size+1) scope.names []).lookup y.1).isSome=true):=fun⟨n,v⟩ hy=>by
  rcases S.par n (List.of_mem_zip hy).1 with q | q
  ·exact .inl q
  ·exact .inr ⟨q,W.cellsFrom_some _ _ _ (.inl q)⟩
 refine codeAny_call_function hr.depth (KX _ _ lk) rfl S.co S.gen rfl (W.codeRec_of KX hcd) (hb _ _ _ _ ?_);refine wpAny_newFunctionEnv_cells S.kind hkind fun env he s1 x=> ?_;subst he;refine⟨lim.keeps x.toInCall.keep,codeAny_func ?_⟩;obtain⟨t,ht,hq⟩:=hbody A outer s H vs Q E (hr.deeper _) hsp;have I:Inv (dF CX P w K mg base N qual scope f cdv A outer s H E) [] (start N vs) H s1:=Z4 S hr.hd e0 hl r x;refine wpAny_mono (ht [] s1 (start N vs) H _ I hq) (fun fl s' hs=> ?_) fun e s' hs=>hs;have fin:∀{σ' :St} {H' :Hp} {v:V} {u:Value},Inv (dF CX P w K mg base N qual scope f cdv A outer s H E) [] σ' H' s' ->RelV v u ->Q v H' ->CE outer P w H s Q u s' :=
  fun{σ' H' v u} J rv q=>⟨v,H',J.os,J.bare,J.base,J.hok,rv,q⟩
 cases fl with
 | ret u=>
  obtain⟨v,σ',H',J,rv,q⟩:=hs;exact fin J rv q
 | next=>
  obtain⟨σ',H',J,q⟩:=hs;exact fin (v:=V.non) (u:=Value.none) J rfl q
 | brk=>
  obtain⟨_,_,_,q⟩:=hs;exact False.elim q
 | cont=>
  obtain⟨_,_,_,q⟩:=hs;exact False.elim q
section
variable{X:Cx}{x:Str}{p pos:Pos}{e:Expr}{es:List Expr}{t:TA}{id T:String}{r:List V ->Hp ->VK ->Prop}
def Ag(r:List V ->Hp ->VK ->Prop)(t:TA):TE:=fun σ H Q=>t σ H fun vs H1=>r vs H1 Q
theorem Jq(hc:bK X (.builtin id) r)(hg:Gl X x)(hm:X.mg x=none)(hv:bootBuiltins x=some (.builtin id))(ha:PA X (e::es) t)(hn:x≠ "__name__" :=by decide)(hdb:(x==("__debug__" :Str))=false:=by decide)
  (he:starEach (e::es) X.env=(false,eval e X.env)::starEach es X.env:=by rfl) (hpl:(backTo pos (starEach es X.env)).any (·.1)=false:=by rfl):PE X (.Call (.Name x p) (e::es) [] pos) (Ag r t):=by
 intro pins s σ H Q I h;refine wpAny_Call_Name_kw (uX I hg hm hv ?_ hn hdb);exact PyProof.Rows.callWith_builtin1 (aY (ha pos pins s σ H _ I h) fun us s1 Jr=>by obtain⟨vs,H1,I1,r1,q1⟩:=Jr;exact hc pins s1 σ H1 vs us Q I1 r1 q1) he hpl
theorem Js(hc:bK X (.type T) r)(hg:Gl X x)(hm:X.mg x=none)(hv:bootBuiltins x=some (.type T))(ha:PA X (e::es) t)(hn:x≠ "__name__" :=by decide)(hdb:(x==("__debug__" :Str))=false:=by decide)
  (he:starEach (e::es) X.env=(false,eval e X.env)::starEach es X.env:=by rfl) (hpl:(backTo pos (starEach es X.env)).any (·.1)=false:=by rfl):PE X (.Call (.Name x p) (e::es) [] pos) (Ag r t):=by
 intro pins s σ H Q I h;refine wpAny_Call_Name_kw (uX I hg hm hv ?_ hn hdb);exact PyProof.Rows.callWith_type1 (aY (ha pos pins s σ H _ I h) fun us s1 Jt=>by obtain⟨vs,H1,I1,r1,q1⟩:=Jt;exact hc pins s1 σ H1 vs us Q I1 r1 q1) he hpl
end
end L2
namespace HT
open PySem PyProof.Rows
def lexLt:List Int ->List Int ->Bool
 | [],[]=>false
 | [],_::_=>true
 | _::_,[]=>false
 | x::xs,y::ys=>if x=y then lexLt xs ys else decide (x<y)
section
open PySem.SeqAt
open PySem.AutoSeq1 (wpAny_loadPart')
open PySem.MeetsSeq PySem.MeetsSeq2 PySem.MeetsSeq3
end
section
variable{prog:Program}{w:World}{A:Around}{E:bf}{s:Shared}
def sIx(n d:Nat):Option Int ->Nat
 | none=>d
 | some v=>if v<0 then(v+ (n:Int)).toNat else min v.toNat n
end
end HT
namespace L2
open PySem PySem.Spec PyProof.Rows
abbrev TO:=St ->Hp ->(Option Int ->Hp ->Prop) ->Prop
def PO(X:Cx)(e:Option Expr)(t:TO):Prop:=
 ∀(pins:aV) (s:Shared) (σ:St) (H:Hp) (Q:Option Int ->Hp ->Prop),Inv X pins σ H s ->t σ H Q ->
  wpAny (model X.prog X.w) X.A (evalPart e X.env) (fun u s' =>∃o H',Inv X pins σ H' s' /\IsPart u o/\Q o H') X.xe s
def Z5:TO:=fun _ H Q=>Q none H
def Ah(t:TE):TO:=fun σ H Q=>t σ H fun x H1=>∃i,x= .int i/\Q (some i) H1
section
variable{X:Cx}{e:Expr}{te:TE}{lo hi:Option Expr}{tl th:TO}{pos p2:Pos}
theorem Z6:PO X none Z5:=by
 intro pins s σ H Q I h;rw[evalPart_none];exact z7 ⟨none,H,I,.none,h⟩
theorem Z7(h:PE X e te):PO X (some e) (Ah te):=by
 intro pins s σ H Q I hw;rw[evalPart_some];refine aY (h pins s σ H _ I hw) fun u s1 Ju=> ?_;obtain⟨x,H1,I1,r1,q1⟩:=Ju;obtain⟨i,rfl,q⟩:=q1;obtain⟨t,rfl⟩:=r1;exact⟨some i,H1,I1,.int i t,q⟩
def Ri(X:Cx)(r:V ->Option Int ->Option Int ->Hp ->VK ->Prop):Prop:=
 ∀(pins:aV) (s:Shared) (σ:St) (H:Hp) (x:V) (v vl vu:Value) (lo hi:Option Int) (sl:Addr) (Q:VK),Inv X pins σ H s ->RelV x v ->s.heap.IsSliceOf sl vl vu .none ->IsPart vl lo ->IsPart vu hi ->r x lo hi H Q ->
  ∃T id,typeLookup (.type T) "__getitem__" =pure (some (.builtin id))/\s.TypeIs v T/\wpAny (model X.prog X.w) X.A (getItem v (.ref sl)) (EP X pins σ Q) X.xe s
def Z8(r:V ->Option Int ->Option Int ->Hp ->VK ->Prop)(te:TE)(tl th:TO):TE:=fun σ H Q=>te σ H fun x H1=>tl σ H1 fun l H2=>th σ H2 fun u H3=>r x l u H3 Q
theorem Z9{r:V ->Option Int ->Option Int ->Hp ->VK ->Prop}(hr:Ri X r)(he:PE X e te)(hl:PO X lo tl)(hu:PO X hi th):PE X (.Subscript e (.Slice lo hi none p2) pos) (Z8 r te tl th):=by
 intro pins s σ H Q I h;refine Subscript_ (aY (he pins s σ H _ I h) fun v s1 Jv=> ?_);obtain⟨x,H1,I1,r1,q1⟩:=Jv;refine wpAny_Slice (aY (hl pins s1 σ H1 _ I1 q1) fun vl s2 ⟨l,H2,I2,pl,q2⟩=>aY (hu pins s2 σ H2 _ I2 q2) fun vu s3 ⟨u,H3,I3,pu,q3⟩=> ?_);rw[evalPart_none];refine z7 ?_;have I4:Inv X pins σ H3 {s3 with heap:=s3.heap.push {cls:= .type "slice",data:= .fields #[vl,vu,.none]}}:=I3.kept (t' :=s3.toks) fun b ob q=>z8 _ q;obtain⟨T,id,hT,ht,hg⟩:=hr pins {s3 with heap:=s3.heap.push {cls:= .type "slice",data:= .fields #[vl,vu,.none]}} σ H3 x v vl vu l u s3.heap.objs.size Q I4 r1 (Heap.IsSliceOf.new ..) pl pu q3;show wpAny (model X.prog X.w) X.A (subscriptTail e (.Slice lo hi none p2) v (.ref s3.heap.objs.size)) (EP X pins σ Q) X.xe {s3 with heap:=s3.heap.push {cls:= .type "slice",data:= .fields #[vl,vu,.none]}};exact tail_any (ops:= [.ref s3.heap.objs.size,v]) ht hT hg (by with_unfolding_all rfl)
def nU(xs:List V)(lo hi:Option Int):List V:=(xs.drop (HT.sIx xs.length 0 lo)).take (HT.sIx xs.length xs.length hi - HT.sIx xs.length 0 lo)
theorem zkp(xs:List V)(lo hi:Option Int):(nU xs lo hi).length<=xs.length:=by
 unfold nU;rw[List.length_take,List.length_drop];omega
def aac(K:W.Frag):V ->Option Int ->Option Int ->Hp ->VK ->Prop:=fun x lo hi H Q=>∃a xs,x= .ref a/\iw K H a xs/\
 ¬(HT.sIx xs.length 0 lo=0/\HT.sIx xs.length xs.length hi=xs.length)/\∀p,H p=none ->Q (.ref p) (upd H p (.tup (nU xs lo hi)))
def aad(K:W.Frag):R2:=fun x y H Q=>∃a b ns ms,x= .ref a/\y= .ref b/\iw K H a (ns.map V.int)/\iw K H b (ms.map V.int)/\Q (.bl (HT.lexLt ns ms)) H
def Rj(K:W.Frag):R2:=fun x y H Q=>∃a b xs ys,x= .ref a/\y= .ref b/\iw K H a xs/\iw K H b ys/\xs≠ []/\xs.length+ys.length<=sizeLine/\
 (ys= [] ->Q (.ref a) H)/\ (ys≠ [] ->∀p,H p=none ->Q (.ref p) (upd H p (.tup (xs++ys))))
end
def nW(n:Nat)(i:Int):Option Nat:=if 0<=i then(if i<n then some i.toNat else none) else if -(n:Int)<=i then some (i+n).toNat else none
def fJ{α:Type}(xs:List α)(i:Int):Option α:=(nW xs.length i).bind fun j=>xs[j]?
theorem Rk{n:Nat}{i:Int}{j:Nat}(h:nW n i=some j):seqIndex? i n=some j/\j<n/\ -(n:Int)<=i/\i<n:=by
 unfold nW at h;by_cases h0:0<=i
 ·rw[if_pos h0] at h;by_cases h1:i<n
  ·rw[if_pos h1] at h;have e:i.toNat=j:=zJ h;exact⟨by rw[seqIndex_of h0 h1,e],by omega,by omega,h1⟩
  ·rw[if_neg h1] at h;cases h
 ·rw[if_neg h0] at h;by_cases h1: -(n:Int)<=i
  ·rw[if_pos h1] at h;have e:(i+n).toNat=j:=zJ h;exact⟨by rw[seqIndex_neg (by omega) h1,e],by omega,h1,by omega⟩
  ·rw[if_neg h1] at h;cases h
theorem Jw{α:Type}{xs:List α}{i:Int}{v:α}(h:fJ xs i=some v):∃j,seqIndex? i xs.length=some j/\xs[j]?=some v/\j<xs.length/\ -(xs.length:Int)<=i/\i<xs.length:=by
 unfold fJ at h;cases e:nW xs.length i with
 | none=>rw[e] at h;cases h
 | some j=>
  rw[e] at h;obtain⟨h1,h2,h3,h4⟩:=Rk e;exact⟨j,h1,h,h2,h3,h4⟩
theorem jx{α:Type}{xs:List α}{j:Nat}{v:α}(h:xs[j]?=some v):fJ xs (j:Int)=some v:=by
 have hj:j<xs.length:=(zW.mp h).1;have e:nW xs.length (j:Int)=some j:=by
  unfold nW;rw[if_pos (by omega),if_pos (by omega)];simp
 unfold fJ;rw[e];exact h
def Fe(b:Expr):Prop:=∀o i,subscripted b false o i=operate [o,i] (getItem o i)
def Fg(X:Cx)(r:R2):Prop:=
 ∀(value slice:Expr) (pins:aV) (s:Shared) (σ:St) (H:Hp) (x y:V) (v u:Value) (Q:VK),Inv X pins σ H s ->RelV x v ->RelV y u ->r x y H Q ->
  subscripted slice false v u=operate [v,u] (getItem v u) ->wpAny (model X.prog X.w) X.A (subscriptTail value slice v u) (EP X pins σ Q) X.xe s
def MtR(X:Cx)(id:String)(r:V ->List V ->Hp ->VK ->Prop):Prop:=
 ∀(pins:aV) (s:Shared) (σ:St) (H:Hp) (x:V) (xs:List V) (v:Value) (us:List Value) (Q:VK),Inv X pins σ H s ->RelV x v ->Vals xs us ->r x xs H Q ->
  wpAny (model X.prog X.w) X.A (call (.builtin id) (v::us)) (EP X pins σ Q) X.xe s
section
variable{X:Cx}{a b:Expr}{ta tb:TE}{pos:Pos}
theorem Jx{r:R2}(hr:Fg X r)(ha:PE X a ta)(hb:PE X b tb)(hs:Fe b):PE X (.Subscript a b pos) (Aa r ta tb):=by
 intro pins s σ H Q I h;exact Subscript_ (vY ha hb I h fun v u s2 x y H2 I2 rx ry q=>hr a b pins s2 σ H2 x y v u Q I2 rx ry q (hs _ _))
def Ai(K:W.Frag):R2:=fun x y H Q=>∃p xs i v,x= .ref p/\y= .int i/\dW K H p xs/\fJ xs i=some v/\Q v H
def v8(K:W.Frag):R2:=fun x y H Q=>∃p xs i v,x= .ref p/\y= .int i/\iw K H p xs/\fJ xs i=some v/\Q v H
def Aj:R2:=fun x y H Q=>∃z i c,x= .str z/\y= .int i/\z.length<=sizeLine/\fJ z.cps.toList i=some c/\Q (.str ⟨#[c]⟩) H
theorem Rm:Fg X (Ai X.K):=by
 intro value slice pins s σ H x y v u Q I rx ry h hs;obtain⟨p,xs,i,z,rfl,rfl,hq,he,q⟩:=h;cases rx;obtain⟨t,rfl⟩:=ry;obtain⟨its,r,pl,hz⟩:=I.list hq;obtain⟨j,h1,h2,h3,h4,h5⟩:=Jw he;obtain⟨w,ew,lR⟩:=r.get h2;have hl:=r.length;have hn:=gJ;have fin:EP X pins σ Q w s:=⟨z,H,I,lR,q⟩;by_cases h0:0<=i
 ·have hj:i.toNat=j:=by
   rw[seqIndex_of h0 h5] at h1;exact zJ h1
  exact item_listR pl.isList h0 (by omega) (by rw[hj];simpa using ew) fin hs
 ·have hj:(i+ (its.toArray.size:Int)).toNat=j:=by
   rw[seqIndex_neg (by omega) h4] at h1
   rw[List.size_toArray,<- hl];exact zJ h1
  exact subscriptTail_builtinR (x:=w) pl.isList.typeIs slot_list_getitem.lookup
   (wpAny_getItem_list_neg (Q:=fun r s' =>r=w/\EP X pins σ Q r s') pl.isList (by omega) (by rw[List.size_toArray]<;>omega) (by omega) (by rw[hj];simpa using ew) ⟨rfl,fin⟩) hs
theorem Rn:Fg X (v8 X.K):=by
 intro value slice pins s σ H x y v u Q I rx ry h hs;obtain⟨p,xs,i,z,rfl,rfl,hq,he,q⟩:=h;cases rx;obtain⟨t,rfl⟩:=ry;obtain⟨its,r,pl,hz⟩:=I.tuple hq;obtain⟨j,h1,h2,h3,h4,h5⟩:=Jw he;obtain⟨w,ew,lR⟩:=r.get h2;have hl:=r.length;have hn:=gJ;have fin:EP X pins σ Q w s:=⟨z,H,I,lR,q⟩;exact subscriptTail_builtinR (x:=w) pl.typeIs slot_tuple_getitem.lookup
  (getItem_tuple (j:=j) (Q:=fun r s' =>r=w/\EP X pins σ Q r s') pl (by omega) (by omega) (by rw[List.size_toArray,<- hl];exact h1) (by simpa using ew) ⟨rfl,fin⟩) hs
theorem zxq:Fg X Aj:=by
 intro value slice pins s σ H x y v u Q I rx ry h hs;obtain⟨z,i,c,rfl,rfl,hz,he,q⟩:=h;obtain⟨t,rfl⟩:=rx;obtain⟨t',rfl⟩:=ry;obtain⟨j,h1,h2,h3,h4,h5⟩:=Jw he;have hl:z.cps.toList.length=z.length:=by simp [Str.length]
 rw[hl] at h1 h4 h5;have hn:=gJ;exact tail_any (typeIs_str s z t) slot_str_getitem.lookup (getItem_str (c:=c) (by
  have e1:decide (i< -(2^63:Int))=false:=decide_eq_false (by omega)
  have e2:decide (i≥2^63)=false:=decide_eq_false (by omega)
  rw[e1,e2,Bool.or_false]) (by rw[h1];simpa using h2) ⟨.str ⟨#[c]⟩,H,I.tok _,⟨_,rfl⟩,q⟩) hs
def rIx(K:W.Frag):R2:=fun x y H Q=>Ai K x y H Q\/v8 K x y H Q\/Aj x y H Q
theorem zm7(its:List Value)(n j:Nat)(u:Value):Obj.mapSeq (·.setIfInBounds j u) {cls:= .type "list",data:= .seq its.toArray n}={cls:= .type "list",data:= .seq (its.set j u).toArray n}:=by
 simp [Obj.mapSeq]
theorem Inv.lst{pins:aV}{σ:St}{H:Hp}{s:Shared}{p:Addr}{xs:List V}(I:Inv X pins σ H s)(h:H p=some (.lst xs)):
  ∃(its:List Value) (n:Nat),Vals xs its/\s.heap.get? p=some {cls:= .type "list",data:= .seq its.toArray n}/\xs.length<=sizeLine:=by
 obtain⟨z,its,n,r,e⟩:=I.hok p _ h;exact⟨its,n,r,e,z⟩
theorem Inv.lstUpd{pins:aV}{σ:St}{H:Hp}{s:Shared}{p:Addr}{xs ys:List V}{its its' :List Value}{n n' :Nat}{f:Obj ->Obj}(I:Inv X pins σ H s)(h:H p=some (.lst xs))
  (ho:s.heap.get? p=some {cls:= .type "list",data:= .seq its.toArray n}) (hf:f {cls:= .type "list",data:= .seq its.toArray n}={cls:= .type "list",data:= .seq its'.toArray n'}) (r:Vals ys its') (hz:ys.length<=sizeLine) (t:Nat):
  Inv X pins σ (upd H p (.lst ys)) {s with heap:=s.heap.update p f,toks:=t}:=by
 have e:(s.heap.update p f).get? p=some {cls:= .type "list",data:= .seq its'.toArray n'}:=by
  rw[Heap.get?_update_self f ho (by rw[hf]<;>rfl),hf]
 refine I.write (x:=p) (e:=p) (by rw[h];trivial) (.inl rfl) (fun b u hb q=>(Heap.get?_update_other _ _ (Ne.symm hb)).trans q) ⟨_,e⟩ ?_
 exact⟨hz,its',n',r,e⟩
def Ak:V ->V ->V ->Hp ->(Hp ->Prop) ->Prop:=fun o i v H Q=>∃p xs k j,o= .ref p/\i= .int k/\H p=some (.lst xs)/\nW xs.length k=some j/\Q (upd H p (.lst (xs.set j v)))
theorem zra:zA X Ak:=by
 intro pins s σ H o i v ov iv u Q I ro ri rv h;obtain⟨p,xs,k,j,rfl,rfl,hp,hj,q⟩:=h;cases ro;obtain⟨t,rfl⟩:=ri;obtain⟨its,n,r,ho,hz⟩:=I.lst hp;obtain⟨h1,h2,h3,h4⟩:=Rk hj;have hl:=r.length;have hn:=gJ;have I' :Inv X pins σ (upd H p (.lst (xs.set j v))) {s with heap:=s.heap.update p (Obj.mapSeq (·.setIfInBounds j u))}:=
  I.lstUpd hp ho (zm7 its n j u) (r.set rv j) (by rw[List.length_set];exact hz) s.toks
 by_cases h0:0<=k
 ·have hk:k.toNat=j:=by
   rw[seqIndex_of h0 h4] at h1;exact zJ h1
  exact W.ki_setAt ho h0 (by omega) (by rw[List.size_toArray,<- hl];exact h4) (by rw[hk];exact⟨_,I',q⟩)
 ·have hk:(k+ (its.toArray.size:Int)).toNat=j:=by
   rw[seqIndex_neg (by omega) h3] at h1
   rw[List.size_toArray,<- hl];exact zJ h1
  exact W.ki_setBack ho (by omega) (by rw[List.size_toArray,<- hl];exact h3) (by omega) (by rw[hk];exact⟨_,I',q⟩)
theorem zj5(lo hi:Option Int)(n:Nat):(sliceBounds lo hi none n).1=((HT.sIx n 0 lo:Nat):Int)/\ (sliceBounds lo hi none n).2.1=((HT.sIx n n hi:Nat):Int)/\ (sliceBounds lo hi none n).2.2=1:=by
 refine⟨?_,?_,rfl⟩
 ·cases lo with
  | none=>simp [sliceBounds,HT.sIx]
  | some i=>
   simp only [sliceBounds,HT.sIx,Option.getD_none,show(1:Int)>0 by decide,if_true]
   by_cases h:i<0
   ·simp only [h,if_true]<;>omega
   ·simp only [h,if_false]<;>omega
 ·cases hi with
  | none=>simp [sliceBounds,HT.sIx]
  | some i=>
   simp only [sliceBounds,HT.sIx,Option.getD_none,show(1:Int)>0 by decide,if_true]
   by_cases h:i<0
   ·simp only [h,if_true]<;>omega
   ·simp only [h,if_false]<;>omega
theorem ziz(its:List Value)(lo hi:Option Int):slicePick its.toArray lo hi none=((its.drop (HT.sIx its.length 0 lo)).take (HT.sIx its.length its.length hi - HT.sIx its.length 0 lo)).toArray:=by
 obtain⟨h1,h2,h3⟩:=zj5 lo hi its.toArray.size;unfold slicePick;rw[h1,h2,h3];simp only [sliceRange_one,pick_run,List.size_toArray]<;>rfl
def Jy(K:W.Frag):V ->Option Int ->Option Int ->Hp ->VK ->Prop:=fun x lo hi H Q=>∃a xs,x= .ref a/\dW K H a xs/\∀p,H p=none ->Q (.ref p) (upd H p (.lst (nU xs lo hi)))
theorem ztx:Ri X (Jy X.K):=by
 intro pins s σ H x v vl vu lo hi sl Q I rx hs pl pu h;obtain⟨a,xs,rfl,hx,q⟩:=h;cases rx;obtain⟨its,r,ht,hz⟩:=I.list hx;have hlen:=r.length;refine⟨"list",_,slot_list_getitem.lookup,ht.isList.typeIs,?_⟩;refine wpAny_getItem_list_slice ht.isList hs pl pu .none (by simp) ?_ (by rw[List.size_toArray]<;>omega)
 rw[ziz,<- hlen];refine⟨.ref s.heap.objs.size,_,I.laid (t' :=s.toks) (o:= .lst (nU xs lo hi)) (fun b ob q=>z8 _ q) (zO _) ?_,rfl,q _ (I.hok.fresh (zO _))⟩;exact⟨zP (zkp xs lo hi) hz,_,0,(r.drop (HT.sIx xs.length 0 lo)).take (HT.sIx xs.length xs.length hi - HT.sIx xs.length 0 lo),z9 _ rfl⟩
def fZ:V ->Bool
 | .non=>true
 | .bl _=>true
 | .int _=>true
 | .str _=>true
 | _=>false
def ug:V ->V ->Bool
 | .non,.non=>true
 | .bl a,.bl b=>a==b
 | .bl a,.int b=>(if a then 1 else 0)==b
 | .int a,.bl b=>a==(if b then 1 else 0)
 | .int a,.int b=>a==b
 | .str a,.str b=>a==b
 | _,_=>false
theorem zw3{A:Around}{s:Shared}{y x:V}{u v:Value}(ry:RelV y u)(rx:RelV x v)(fy:fZ y=true)(fx:fZ x=true):SeqAt.EqAt A s u v (ug y x):=by
 cases y with
 | non=>
  cases ry;cases x with
  | non=>cases rx;exact SeqAt.EqAt.same _
  | bl b=>cases rx;exact SeqAt.EqAt.none_bool b
  | int b=>obtain⟨t,rfl⟩:=rx;exact SeqAt.EqAt.none_int b t
  | str b=>obtain⟨t,rfl⟩:=rx;exact SeqAt.EqAt.none_str b t
  | _=>exact absurd (show false=true from fx) zL
 | bl a=>
  cases ry;cases x with
  | non=>cases rx;exact SeqAt.EqAt.bool_none a
  | bl b=>cases rx;exact SeqAt.EqAt.bool_bool a b
  | int b=>obtain⟨t,rfl⟩:=rx;exact SeqAt.EqAt.bool_int a b t
  | str b=>obtain⟨t,rfl⟩:=rx;exact SeqAt.EqAt.bool_str a b t
  | _=>exact absurd (show false=true from fx) zL
 | int a=>
  obtain⟨t',rfl⟩:=ry;cases x with
  | non=>cases rx;exact SeqAt.EqAt.int_none a t'
  | bl b=>cases rx;exact SeqAt.EqAt.int_bool a t' b
  | int b=>obtain⟨t,rfl⟩:=rx;exact SeqAt.EqAt.int_int a t' b t
  | str b=>obtain⟨t,rfl⟩:=rx;exact SeqAt.EqAt.int_str a t' b t
  | _=>exact absurd (show false=true from fx) zL
 | str a=>
  obtain⟨t',rfl⟩:=ry;cases x with
  | non=>cases rx;exact SeqAt.EqAt.str_none a t'
  | bl b=>cases rx;exact SeqAt.EqAt.str_bool a t' b
  | int b=>obtain⟨t,rfl⟩:=rx;exact SeqAt.EqAt.str_int a t' b t
  | str b=>obtain⟨t,rfl⟩:=rx;exact SeqAt.EqAt.str_str a t' b t
  | _=>exact absurd (show false=true from fx) zL
 | _=>exact absurd (show false=true from fy) zL
def nY(x:V)(u:Value):Bool:=match u with
 | .none=>ug .non x
 | .bool b=>ug (.bl b) x
 | .int i _=>ug (.int i) x
 | .str z _=>ug (.str z) x
 | _=>false
theorem Ro{x y:V}{u:Value}(r:RelV y u)(f:fZ y=true):nY x u=ug y x:=by
 cases y with
 | non=>cases r;rfl
 | bl b=>cases r;rfl
 | int i=>obtain⟨t,rfl⟩:=r;rfl
 | str z=>obtain⟨t,rfl⟩:=r;rfl
 | _=>exact absurd (show false=true from f) zL
theorem Al{x:V}:∀{xs:List V} {us:List Value},Vals xs us ->xs.all fZ=true ->us.any (nY x)=xs.any fun y=>ug y x
 | _,_,.nil,_=>rfl
 | y::xs,u::us,.cons r t,f=>by
  rw[List.all_cons,Bool.and_eq_true] at f;rw[List.any_cons,List.any_cons,Ro r f.1,Al t f.2]
theorem Am{A:Around}{s:Shared}{x:V}{v:Value}(rx:RelV x v)(fx:fZ x=true):∀{xs:List V} {us:List Value},Vals xs us ->xs.all fZ=true ->∀u∈us,SeqAt.EqAt A s u v (nY x u)
 | _,_,.nil,_=>fun u hu=>by cases hu
 | y::xs,u::us,.cons r t,f=>fun u' hu=>by
  rw[List.all_cons,Bool.and_eq_true] at f;rcases zV.mp hu with rfl | hu
  ·rw[Ro r f.1];exact zw3 r rx f.1 fx
  ·exact Am rx fx t f.2 u' hu
def inV(x:V)(xs:List V):Bool:=xs.any fun y=>ug y x
def Rp(K:W.Frag)(neg:Bool):R2:=fun x y H Q=>∃p xs,y= .ref p/\ (dW K H p xs\/iw K H p xs)/\fZ x=true/\xs.all fZ=true/\Q (.bl (if neg then !inV x xs else inV x xs)) H
theorem Rq:dJ X (compareOp .In) (Rp X.K false):=by
 intro pins s σ H x y v u Q I rx ry h;obtain⟨p,xs,rfl,hq,fx,fs,q⟩:=h;cases ry;rcases hq with hq | hq
 ·obtain⟨its,r,pl,hz⟩:=I.list hq;refine SeqAt.in_listAt (nY x) pl.isList (fun w hw=>Am rx fx r fs w (by simpa using hw)) ⟨.bl _,H,I,rfl,?_⟩
  rw[show its.toArray.any (nY x)=its.any (nY x) by simp,Al r fs]
  exact q
 ·obtain⟨its,r,pl,hz⟩:=I.tuple hq;refine SeqAt.in_tupleAt (nY x) pl (fun w hw=>Am rx fx r fs w (by simpa using hw)) ⟨.bl _,H,I,rfl,?_⟩
  rw[show its.toArray.any (nY x)=its.any (nY x) by simp,Al r fs]
  exact q
theorem Rr:dJ X (compareOp .NotIn) (Rp X.K true):=by
 intro pins s σ H x y v u Q I rx ry h;obtain⟨p,xs,rfl,hq,fx,fs,q⟩:=h;cases ry;rcases hq with hq | hq
 ·obtain⟨its,r,pl,hz⟩:=I.list hq;refine SeqAt.notIn_listAt (nY x) pl.isList (fun w hw=>Am rx fx r fs w (by simpa using hw)) ⟨.bl _,H,I,rfl,?_⟩
  rw[show its.toArray.any (nY x)=its.any (nY x) by simp,Al r fs]
  exact q
 ·obtain⟨its,r,pl,hz⟩:=I.tuple hq;refine SeqAt.notIn_tupleAt (nY x) pl (fun w hw=>Am rx fx r fs w (by simpa using hw)) ⟨.bl _,H,I,rfl,?_⟩
  rw[show its.toArray.any (nY x)=its.any (nY x) by simp,Al r fs]
  exact q
theorem Rt:bK X (.builtin "len") (fun xs H Q=>∃p ys,xs= [.ref p]/\ (dW X.K H p ys\/iw X.K H p ys)/\Q (.int ys.length) H):=by
 intro pins s σ H xs us Q I r h;obtain⟨p,ys,rfl,hq,q⟩:=h;obtain⟨u,rfl,rx⟩:=vals1 r;cases rx;have hn:=gJ;rcases hq with hq | hq
 ·obtain⟨its,r',pl,hz⟩:=I.list hq;have hlen:=r'.length;exact Calls.call_len_list pl.isList (by simp only [List.size_toArray]<;>omega) ⟨.int ys.length,H,I.tok _,⟨s.toks+1,by rw[List.size_toArray,hlen]⟩,q⟩
 ·obtain⟨its,r',pl,hz⟩:=I.tuple hq;have hlen:=r'.length;exact len_tuple pl (by simp only [List.size_toArray]<;>omega) ⟨.int ys.length,H,I.tok _,⟨s.toks+1,by rw[List.size_toArray,hlen]⟩,q⟩
theorem zjf:bK X (.builtin "len") (fun xs H Q=>∃z,xs= [.str z]/\z.length<=sizeLine/\Q (.int z.length) H):=by
 intro pins s σ H xs us Q I r h;obtain⟨z,rfl,hz,q⟩:=h;obtain⟨u,rfl,t,rfl⟩:=vals1 r;have hn:=gJ;exact len_str (by omega) ⟨.int z.length,H,I.tok _,⟨_,rfl⟩,q⟩
theorem Ru:bK X (.type "list") (fun xs H Q=>∃p ys,xs= [.ref p]/\ (dW X.K H p ys\/iw X.K H p ys)/\∀l,H l=none ->Q (.ref l) (upd H l (.lst ys))):=by
 intro pins s σ H xs us Q I r h;obtain⟨p,ys,rfl,hq,q⟩:=h;obtain⟨u,rfl,rx⟩:=vals1 r;cases rx;have fin:∀(its:List Value),Vals ys its ->ys.length<=sizeLine ->∀(h' :Heap) (c' :Nat),(∀b o',s.heap.get? b=some o' ->h'.get? b=some o') ->
   h'.get? s.heap.objs.size=some {cls:= .type "list",dict:=none,data:= .seq its.toArray c',slots:= #[]} ->EP X pins σ Q (.ref s.heap.objs.size) {s with heap:=h'}:=fun its r' hz h' c' kp e=>
  ⟨.ref s.heap.objs.size,_,I.laid (t' :=s.toks) kp (zO _) (show aX X.prog X.w _ h' _ (.lst ys) from ⟨hz,its,c',r',e⟩),rfl,q _ (I.hok.fresh (zO _))⟩
 rcases hq with hq | hq
 ·obtain⟨its,r',pl,hz⟩:=I.list hq;have hlen:=r'.length;obtain⟨o,ho,hc,n,hd⟩:=pl.isList;exact call_list_seq p (.inl rfl) ho hc hd (fun h' c' kp e=>fin its r' hz h' c' kp e) (by simp only [List.size_toArray]<;>omega)
 ·obtain⟨its,r',pl,hz⟩:=I.tuple hq;have hlen:=r'.length;obtain⟨o,ho,hc,n,hd⟩:=pl;exact call_list_seq p (.inr rfl) ho hc hd (fun h' c' kp e=>fin its r' hz h' c' kp e) (by simp only [List.size_toArray]<;>omega)
def Fi(K:W.Frag)(T:String)(x:V)(H:Hp):Prop:=match x with
 | .str _=>T= "str"
 | .int _=>T= "int"
 | .ref p=>(T= "list" /\∃xs,dW K H p xs)\/ (T= "tuple" /\∃o,K.lookup p=some o/\o.cls= .type "tuple" /\o.dict=none)\/
   (T= "dict" /\ ((∃kvs,H p=some (.dK kvs))\/∃kvs,H p=some (.dT kvs)))\/ (T= "set" /\∃S n,H p=some (.set S n))
 | _=>False
theorem zxd{pins:aV}{σ:St}{H:Hp}{s:Shared}{T:String}{x:V}{v:Value}(I:Inv X pins σ H s)(r:RelV x v)(ty:Fi X.K T x H):
  s.TypeIs v T/\∀a,v= .ref a ->∃ob,s.heap.get? a=some ob/\ob.dict=none:=by
 cases x with
 | str z=>
  obtain⟨t,rfl⟩:=r;cases (show T= "str" from ty);exact⟨typeIs_str s z t,fun _ e=>nomatch e⟩
 | int i=>
  obtain⟨t,rfl⟩:=r;cases (show T= "int" from ty);exact⟨typeIs_int s i t,fun _ e=>nomatch e⟩
 | ref p=>
  cases r;rcases ty with ⟨rfl,xs,hq⟩ | ⟨rfl,o,hk,hc,hd⟩ | ⟨rfl,hk⟩ | ⟨rfl,S,n,hk⟩
  ·obtain⟨its,_,pl,_⟩:=I.list hq;refine⟨pl.isList.typeIs,fun a e=> ?_⟩;cases e;obtain⟨o,n,e,c,hd,_⟩:=pl;exact⟨o,e,hd⟩
  ·refine⟨⟨o,I.kIn p o hk,hc⟩,fun a e=> ?_⟩;cases e;exact⟨o,I.kIn _ o hk,hd⟩
  ·have z:∃o,s.heap.get? p=some o/\o.ExactDict:=by
    rcases hk with ⟨kvs,hk⟩ | ⟨kvs,hk⟩
    ·obtain⟨_,_,_,_,o,_,_,e,ex,_⟩:=I.hok p _ hk;exact⟨o,e,ex⟩
    ·obtain⟨_,_,_,_,o,_,_,e,ex,_⟩:=I.hok p _ hk;exact⟨o,e,ex⟩
   obtain⟨o,e,ex⟩:=z;refine⟨⟨o,e,ex.1⟩,fun a e2=> ?_⟩;cases e2;exact⟨o,e,ex.2.1⟩
  ·obtain⟨o,_,_,_,e,ex,_⟩:=I.hok p _ hk;refine⟨⟨o,e,ex.1⟩,fun a e2=> ?_⟩;cases e2;exact⟨o,e,ex.2.1⟩
 | _=>exact False.elim ty
def aae(K:W.Frag)(T:String)(r:V ->List V ->Hp ->VK ->Prop)(to:TE):TE:=fun σ H Q=>to σ H fun x H1=>Fi K T x H1/\r x [] H1 Q
def tBM(K:W.Frag)(T:String)(r:V ->List V ->Hp ->VK ->Prop)(to:TE)(t:TA):TE:=fun σ H Q=>to σ H fun x H1=>Fi K T x H1/\t σ H1 fun xs H2=>r x xs H2 Q
variable{o e:Expr}{es:List Expr}{to:TE}{t:TA}{name:Str}{apos cpos:Pos}{T id:String}{r:V ->List V ->Hp ->VK ->Prop}
theorem Rv(pa:PlainAttrs T)(slot:Slot T name id)(hty:typeOf (.builtin id)=pure (.type "method_descriptor"))(hm:MtR X id r)(ho:PE X o to)(ha:PA X (e::es) t)
  (hbase:attributeBase o name X.env (eval o X.env)=eval o X.env:=by rfl)
  (hfew:((backTo cpos (starEach (e::es) X.env)).all (fun x=> !x.1)&&(backToKw cpos (keywordEach [] X.env)).all (fun x=>x.1.isSome)
   &&decide ((e::es).length+ ([]:List Keyword).length+ (if ([]:List Keyword).isEmpty then 0 else 1)<30))=true:=by rfl)
  (hline:(apos.endLine==cpos.line)=true:=by rfl) (hs:starEach (e::es) X.env=(false,eval e X.env)::starEach es X.env:=by rfl) (hplain:(backTo cpos (starEach es X.env)).any (·.1)=false:=by rfl):
  PE X (.Call (.Attribute o name apos) (e::es) [] cpos) (tBM X.K T r to t):=by
 intro pins s σ H Q I h;refine wpAny_Call_method_late hbase hfew hline rfl (aY (ho pins s σ H _ I h) fun v s1 Jz=> ?_);obtain⟨x,H1,I1,r1,ty,q1⟩:=Jz;obtain⟨h1,h2⟩:=zxd I1 r1 ty;refine⟨T,id,pa,slot,hty,h1,h2,?_⟩;have hA:=ha cpos pins s1 σ H1 _ I1 q1;rw[hs] at hA⊢;refine Calls.callWith_builtin (by show(false || (backTo cpos (starEach es X.env)).any (·.1))=false;rw[hplain]<;>rfl) (Calls.evalArgs_plain ?_)
 exact aY hA fun us s2 JB=>by obtain⟨vs,H2,I2,r2,q2⟩:=JB;exact hm pins s2 σ H2 x vs v us Q I2 r1 r2 q2
end
def MtM(X:Cx)(id:String)(r:V ->List V ->Hp ->VK ->Prop):Prop:=
 ∀(pins:aV) (s:Shared) (σ:St) (H:Hp) (x:V) (xs:List V) (v:Value) (us:List Value) (Q:VK),Inv X pins σ H s ->RelV x v ->Vals xs us ->r x xs H Q ->
  wpAny (model X.prog X.w) X.A (call (.builtin id) (v::us)) (EP X pins σ Q) X.xe s
theorem Vals.one:∀{x:V} {us:List Value},Vals [x] us ->∃u,us= [u]/\RelV x u
 | _,_,.cons r .nil=>⟨_,rfl,r⟩
theorem Vals.reverse{xs:List V}{us:List Value}(h:Vals xs us):Vals xs.reverse us.reverse:=by
 induction h with
 | nil=>exact .nil
 | cons r t ih=>rw[List.reverse_cons,List.reverse_cons];exact Vals.append ih (.cons r .nil)
section
variable{X:Cx}{pins:aV}{σ:St}{H:Hp}{s:Shared}{l b:Addr}{xs ys zs:List V}
theorem Inv.lset{its its' :List Value}{n:Nat}{f:Array Value ->Array Value}{t' :Nat}(I:Inv X pins σ H s)(hH:H l=some (.lst xs))
  (e:s.heap.get? l=some {cls:= .type "list",data:= .seq its.toArray n}) (hf:f its.toArray=its'.toArray) (hv:Vals ys its') (hz:ys.length<=sizeLine):
  Inv X pins σ (upd H l (.lst ys)) {s with heap:=s.heap.update l (Obj.mapSeq f),toks:=t'}:=by
 have q:=PySem.IsL.update e f;rw[hf] at q;refine I.write (x:=l) (e:=l) (by rw[hH];exact trivial) (.inl rfl) (fun b' u hb hu=>(Heap.get?_update_other s.heap (Obj.mapSeq f) (Ne.symm hb)).trans hu) ⟨_,q⟩ ?_
 exact⟨hz,its',_,hv,q⟩
theorem Inv.lnew{its:List Value}{t' :Nat}(I:Inv X pins σ H s)(hv:Vals ys its)(hz:ys.length<=sizeLine):
  Inv X pins σ (upd H s.heap.objs.size (.lst ys)) {s with heap:=s.heap.push {cls:= .type "list",data:= .seq its.toArray},toks:=t'}:=
 I.laid (fun _ _ q=>z8 _ q) (zO _) ⟨hz,its,0,hv,z9 _ rfl⟩
theorem Inv.fresh(I:Inv X pins σ H s):H s.heap.objs.size=none:=I.hok.fresh (zO _)
theorem Inv.lstM(I:Inv X pins σ H s)(hH:H l=some (.lst xs)):xs.length<=sizeLine/\∃(its:List Value) (n:Nat),Vals xs its/\xs.length=its.length/\s.heap.get? l=some {cls:= .type "list",data:= .seq its.toArray n}:=by
 obtain⟨z,its,n,r,e⟩:=I.hok l _ hH;exact⟨z,its,n,r,r.length,e⟩
end
section
variable{X:Cx}
def zui:V ->List V ->Hp ->VK ->Prop:=fun x vs H Q=>∃l xs y,x= .ref l/\vs= [y]/\H l=some (.lst xs)/\xs.length<sizeLine/\Q .non (upd H l (.lst (xs++ [y])))
theorem JC:MtM X "list.append" zui:=by
 intro pins s σ H x vs v us Q I rx rv h;obtain⟨l,xs,y,rfl,rfl,hH,hz,q⟩:=h;cases rx;obtain⟨u,rfl,ru⟩:=rv.one;obtain⟨z,its,n,r,hl,e⟩:=I.lstM hH;refine call_meets F.slot_list_append ⟨_,e,rfl⟩ F.entry_list_append (F.args_list_append_2 _ _) (PySem.list_append l its.toArray n u (by rw[List.size_toArray];omega)) ⟨e,?_⟩
 refine⟨.non,_,I.lset (its' :=its++ [u]) hH e (by simp) (r.append (.cons ru .nil)) ?_,rfl,q⟩
 rw[List.length_append,List.length_singleton];omega
def zym:V ->List V ->Hp ->VK ->Prop:=fun x vs H Q=>∃l b xs zs,x= .ref l/\vs= [.ref b]/\H l=some (.lst xs)/\H b=some (.lst zs)/\xs.length+zs.length<=sizeLine/\Q .non (upd H l (.lst (xs++zs)))
def aaf:V ->List V ->Hp ->VK ->Prop:=fun x vs H Q=>∃l xs y,x= .ref l/\vs= []/\H l=some (.lst xs)/\xs[xs.length - 1]?=some y/\Q y (upd H l (.lst xs.dropLast))
def JD:V ->List V ->Hp ->VK ->Prop:=fun x vs H Q=>∃l xs i k y,x= .ref l/\vs= [.int i]/\H l=some (.lst xs)/\ -(2^63)<=i/\i<2^63/\seqIndex? i xs.length=some k/\xs[k]?=some y/\Q y (upd H l (.lst (xs.eraseIdx k)))
def zx8:V ->List V ->Hp ->VK ->Prop:=fun x vs H Q=>∃l xs,x= .ref l/\vs= []/\H l=some (.lst xs)/\Q .non (upd H l (.lst xs.reverse))
def JF:V ->List V ->Hp ->VK ->Prop:=fun x vs H Q=>∃l xs,x= .ref l/\vs= []/\H l=some (.lst xs)/\Q .non (upd H l (.lst []))
def aag:R2:=fun x y H Q=>∃l b xs zs,x= .ref l/\y= .ref b/\H l=some (.lst xs)/\H b=some (.lst zs)/\xs.length+zs.length<=sizeLine/\∀p,H p=none ->Q (.ref p) (upd H p (.lst (xs++zs)))
def aah:R2:=fun x y H Q=>∃l k xs,x= .ref l/\y= .int k/\H l=some (.lst xs)/\ -(2^63)<=k/\k<2^63/\xs.length*k.toNat<=sizeLine/\
 ∀p,H p=none ->Q (.ref p) (upd H p (.lst (List.replicate k.toNat xs).flatten))
end
section
variable{prog:Program}{w:World}{A:Around}{E:bf}{s:Shared}
end
section
variable{X:Cx}
end
section
variable{κ:Type}[DecidableEq κ]
def j7(kvs:List (κ×V))(k:κ):Option V:=(kvs.find? fun kv=>decide (kv.1=k)).map (·.2)
def putK(kvs:List (κ×V))(k:κ)(v:V):List (κ×V):=
 if (kvs.any fun kv=>decide (kv.1=k))=true then kvs.map (fun kv=>if kv.1=k then(kv.1,v) else kv) else kvs++ [(k,v)]
def o7(kvs:List (κ×V))(k:κ):List (κ×V):=kvs.filter fun kv=>decide (kv.1≠k)
end
abbrev KT(H:Hp):List (List Key×V) ->List (List Key×Addr×Value) ->Prop:=Paired fun p q=>p.1=q.1/\H q.2.1=some (.tup (p.1.map kV))/\RelV p.2 q.2.2
section
variable{P:Program}{w:World}{H:Hp}{h:Heap}{a:Addr}
end
def pI(H:Hp)(a:Addr)(y:V)(r:Option V):Prop:=
 (∃kvs k,Rd H a (.dK kvs)/\y=kV k/\r=j7 kvs k)\/∃kvs k b,Rd H a (.dT kvs)/\y= .ref b/\H b=some (.tup (k.map kV))/\r=j7 kvs k
def Ao(H:Hp)(a:Addr)(y v:V)(H' :Hp):Prop:=
 (∃kvs k,H a=some (.dK kvs)/\y=kV k/\kvs.length<sizeLine/\H' =upd H a (.dK (putK kvs k v)))\/
 ∃kvs k b,H a=some (.dT kvs)/\y= .ref b/\H b=some (.tup (k.map kV))/\kvs.length<sizeLine/\H' =upd H a (.dT (putK kvs k v))
section
variable{X:Cx}{pins:aV}{σ:St}{H:Hp}{s:Shared}{a:Addr}{y v:V}{u r:Value}{o:Option V}{A:Around}{E:bf}
end
section
variable{X:Cx}{pins:aV}{σ:St}{H:Hp}{s:Shared}{a:Addr}{kvs:List (Key×V)}{k:Key}{u:Value}{A:Around}{E:bf}
end
def aai(i:Expr):Prop:=∀ov iv,subscripted i false ov iv=operate [ov,iv] (getItem ov iv)
def Rw(td ty:TE):TE:=fun σ H Q=>td σ H fun x H1=>ty σ H1 fun y H2=>∃a v,x= .ref a/\pI H2 a y (some v)/\Q v H2
def aaj(ty td:TE):TE:=fun σ H Q=>ty σ H fun y H1=>td σ H1 fun x H2=>∃a o,x= .ref a/\pI H2 a y o/\Q (.bl o.isSome) H2
def zyq(ty td:TE):TE:=fun σ H Q=>ty σ H fun y H1=>td σ H1 fun x H2=>∃a o,x= .ref a/\pI H2 a y o/\Q (.bl (!o.isSome)) H2
def Rx(td ty tv:TE):TS:=fun D σ H=>tv σ H fun v H1=>td σ H1 fun x H2=>ty σ H2 fun y H3=>∃a H4,x= .ref a/\Ao H3 a y v H4/\D.nx σ H4
def Ry(td ty tv:TE)(rd:V ->V ->Hp ->VK ->Prop):TS:=fun D σ H=>td σ H fun x H1=>ty σ H1 fun y H2=>∃a v,x= .ref a/\pI H2 a y (some v)/\
 tv σ H2 fun y2 H3=>rd v y2 H3 fun z H4=>∃H5,Ao H4 a y z H5/\D.nx σ H5
def Rz(td ty:TE):TS:=fun D σ H=>td σ H fun x H1=>ty σ H1 fun y H2=>∃a kvs k,x= .ref a/\H2 a=some (.dK kvs)/\y=kV k/\ (j7 kvs k).isSome=true/\D.nx σ (upd H2 a (.dK (o7 kvs k)))
section
variable{X:Cx}{o i e value:Expr}{pos pos' tpos:Pos}{td ty tv:TE}
end
def JG:TE:=fun _ H Q=>∀p,H p=none ->Q (.ref p) (upd H p (.dK []))
def JH:TE:=fun _ H Q=>∀p,H p=none ->Q (.ref p) (upd H p (.dT []))
section
variable{X:Cx}{pos:Pos}
end
def nZ:List (TE×TE) ->St ->Hp ->(List (V×V) ->Hp ->Prop) ->Prop
 | [],_,H,Q=>Q [] H
 | (tk,tv)::r,σ,H,Q=>tk σ H fun x H1=>tv σ H1 fun y H2=>nZ r σ H2 fun ps H3=>Q ((x,y)::ps) H3
abbrev VV:List (V×V) ->List (Value×Value) ->Prop:=Paired fun p q=>RelV p.1 q.1/\RelV p.2 q.2
def PPs(X:Cx)(pos:Pos)(keys:List (Option Expr))(values:List Expr)(JK:List (TE×TE)):Prop:=
 ∀(pins:aV) (s:Shared) (σ:St) (H:Hp) (Q:List (V×V) ->Hp ->Prop),Inv X pins σ H s ->nZ JK σ H Q ->
  wpAny (model X.prog X.w) X.A (evalPairs (pairTrees keys values X.env pos)) (fun vs s' =>∃ps H',Inv X pins σ H' s' /\VV ps vs/\Q ps H') X.xe s
def v9(kvs more:List (Key×V)):List (Key×V):=more.foldl (fun acc kv=>putK acc kv.1 kv.2) kvs
def RD(JK:List (TE×TE)):TE:=fun σ H Q=>∀p,H p=none ->nZ JK σ (upd H p (.dK [])) fun ps H2=>H2 p=some (.dK [])/\∃kvs:List (Key×V),ps=kvs.map (fun kv=>(kV kv.1,kv.2))/\kvs.length<=15/\Q (.ref p) (upd H2 p (.dK (v9 [] kvs)))
structure M1 (X:Cx) (o:Expr) (m:Str) (apos:Pos) (e:Expr) (cpos:Pos):Prop where
 base:attributeBase o m X.env (eval o X.env)=eval o X.env
 few:((backTo cpos (starEach [e] X.env)).all (fun x=> !x.1)&&(backToKw cpos (keywordEach [] X.env)).all (fun x=>x.1.isSome)
  &&decide (([e]:List Expr).length+ ([]:List Keyword).length+ (if ([]:List Keyword).isEmpty then 0 else 1)<30))=true
 line:(apos.endLine==cpos.line)=true
 trees:backTo cpos (starEach [e] X.env)= [(false,eval e X.env)]
structure M2 (X:Cx) (o:Expr) (m:Str) (apos:Pos) (e f:Expr) (cpos:Pos):Prop where
 base:attributeBase o m X.env (eval o X.env)=eval o X.env
 few:((backTo cpos (starEach [e,f] X.env)).all (fun x=> !x.1)&&(backToKw cpos (keywordEach [] X.env)).all (fun x=>x.1.isSome)
  &&decide (([e,f]:List Expr).length+ ([]:List Keyword).length+ (if ([]:List Keyword).isEmpty then 0 else 1)<30))=true
 line:(apos.endLine==cpos.line)=true
 trees:backTo cpos (starEach [e,f] X.env)= [(false,eval e X.env),(false,eval f X.env)]
def Aq(H:Hp)(a:Addr):Prop:=(∃kvs,Rd H a (.dK kvs))\/∃kvs,Rd H a (.dT kvs)
section
variable{X:Cx}{pins:aV}{σ:St}{H:Hp}{s:Shared}{a:Addr}{y d:V}{u r:Value}{o:Option V}{A:Around}{E:bf}
end
def JL(td ty:TE):TE:=fun σ H Q=>td σ H fun x H1=>∃a,x= .ref a/\Aq H1 a/\ty σ H1 fun y H2=>∃o,pI H2 a y o/\Q (o.getD .non) H2
def JM(td ty tx:TE):TE:=fun σ H Q=>td σ H fun x H1=>∃a,x= .ref a/\Aq H1 a/\ty σ H1 fun y H2=>tx σ H2 fun z H3=>∃o,pI H3 a y o/\Q (o.getD z) H3
def JN(td ty:TE):TE:=fun σ H Q=>td σ H fun x H1=>∃a,x= .ref a/\Aq H1 a/\ty σ H1 fun y H2=>∃kvs k v,H2 a=some (.dK kvs)/\y=kV k/\j7 kvs k=some v/\Q v (upd H2 a (.dK (o7 kvs k)))
def JQ(td ty tx:TE):TE:=fun σ H Q=>td σ H fun x H1=>∃a,x= .ref a/\Aq H1 a/\ty σ H1 fun y H2=>tx σ H2 fun z H3=>∃kvs k,H3 a=some (.dK kvs)/\y=kV k/\
 (∀v,j7 kvs k=some v ->Q v (upd H3 a (.dK (o7 kvs k))))/\ (j7 kvs k=none ->Q z H3)
section
variable{X:Cx}{o e f:Expr}{apos cpos:Pos}{td ty tx:TE}
end
section
variable{X:Cx}{pins:aV}{σ:St}{H:Hp}{s:Shared}{a:Addr}{kvs:List (Key×V)}{A:Around}{E:bf}
end
section
variable{X:Cx}{pins:aV}{σ:St}{H:Hp}{s:Shared}{a:Addr}{y:V}{u:Value}{A:Around}{E:bf}
end
end L2
namespace RG
open PySem PySem.W PySem.Calls PyProof.Rows
theorem zg7{P:Params}{h:Heap}:∀(ns:List Int) (vs:List Value),WellAll P h vs (ns.map WData.int) ->IntsAre vs ns:=by
 intro ns;induction ns with
 | nil=>
  intro vs w;rw[List.map_nil] at w;cases w;exact .nil
 | cons n ns ih=>
  intro vs w;rw[List.map_cons] at w;cases w with
  | cons a b=>
   cases a;exact .cons _ _ (ih _ b)
theorem zn3{l:OpenLaw}{n:Nat}(hn:l.most=some n){P:Params}{h:Heap}{args:List WData}{vals:List Value}
  (hpre:l.row.toRowW.claim.pre args=true) (hwl:WellAll P h vals args):
  ∃a vs ns,vals= [Value.ref a]/\args= [WData.list (ns.map WData.int)]/\h.get? a=some {cls:= .type "list",data:= .seq vs.toArray}/\IntsAre vs ns/\ns.length<=n:=by
 have hsh:WShape.hasAll [] args [.list .int]=true:=(pre_splitW hpre).1;have hc:l.pre.holds [] {args:=args}=true:=(pre_splitW hpre).2;obtain⟨d,r,rfl,h1,h2⟩:=hasAllW_cons hsh;obtain rfl:=hasAllW_nil h2;obtain⟨xs,rfl,h3⟩:=hasW_list h1;obtain⟨ns,rfl⟩:=items_int h3;have hlen:ns.length<=n:=by
  unfold OpenLaw.pre at hc;have h4:(WTm.not (.lt (.lit (.int (n:Int))) (.len (.arg 0)))).holds [] {args:= [.list (ns.map .int)]}=true:=by
   have h4:=(holds_andW hc).1;rw[hn] at h4;exact h4
  have h5:=condW_of h4 (w_not (w_lt w_lit (w_len_list (w_arg rfl))));rw[List.length_map] at h5;refine Nat.le_of_not_lt fun q=> ?_;have q' :(n:Int)< ((ns.length:Nat):Int):=by omega
  first
   | (rw[decide_eq_true q'] at h5;exact absurd h5 (by decide))
   | (simp at h5;omega)
 cases hwl with
 | cons w1 w2=>
  cases w2;cases w1 with
  | list ho hall=>exact⟨_,_,ns,rfl,rfl,ho,zg7 ns _ hall,hlen⟩
theorem zpu(l:OpenLaw)(args:List WData):l.row.toRowW.claim.post args (.bool true) args=true:=
 postW_of (r:=l.row.toRowW) (X:=(true==true))
  (show WShape.has [] (.bool true) .bool=true by first | rfl | decide | simp [WShape.has,WShape.arms,WShape.armsAll])
  (show(WTm.eq .res (.lit (.bool true))).value [] {args:=args,res:=some (.bool true),after:=args}=some (.bool (true==true)) from w_eq_bool (w_res rfl) w_lit) rfl
theorem lX{l:OpenLaw}{n:Nat}{q:Program}{loose:List Str}{XP:(Str ->Option Value) ->Heap ->Prop}{YP:World ->Heap ->Prop}{d:DefRec}
  (hn:l.most=some n) (hdf:d.params.defaults= [])
  (call:∀(w:World) (s₀ s₁:Shared) (mg mb:Str ->Option Value) (fa:Addr) (o:Obj) (pm cd doc:Value) (a:Addr) (vs:List Value) (ns:List Int),
   Ground q loose [] XP w s₀ mg mb s₁.heap ->YP w s₁.heap ->
   s₁.heap.get? fa=some o ->o.data= .func (docDef d.name d.params d.body d.scope pm cd doc) ->s₁.heap.CodeRec cd d.name ->mg d.name=some (.ref fa) ->
   s₁.heap.get? a=some {cls:= .type "list",data:= .seq vs.toArray} ->IntsAre vs ns ->ns.length<=n ->s₁.gens= #[] ->
   codeAny (model l.prog w) callerA (.call (.ref fa) ⟨[.ref a],[]⟩) (fun r s' =>r= .ok (.ret (.bool true))/\OldK s₁.heap s'.heap/\s'.os=s₁.os/\AllBare s'.gens) s₁):
  WalkO q loose XP YP l.row.toRowW d [] (fun f vs=>PySem.call f vs):=by
 intro w s₀ s₁ mg mb G Y fa o pm cd doc dV kV ho hd hcd hD hmg hg args vals as hpre hlay hrd hwl hlo;obtain rfl:dV= .none:=Dflts.none hD hdf;obtain rfl:kV= .none:=Dflts.noKw hD;obtain⟨a,vs,ns,rfl,rfl,hobj,hints,hlen⟩:=zn3 hn hpre hwl;refine enter_call (codeAny_mono (call w s₀ s₁ mg mb fa o pm cd doc a vs ns G Y ho (fd_plain hd) hcd hmg hobj hints hlen hg) fun r s' hq=> ?_);obtain⟨rfl,h2,h3,h4⟩:=hq;exact⟨.inl ⟨.bool true,.bool true,[],rfl,fun _=>rfl,.bool true,zpu l _,fun _=>⟨List.Pairwise.nil,fun _ hm=>(nomatch hm)⟩⟩,h2,h3,h4⟩
section
variable{prog:Program}{w:World}{A:Around}{E:bf}{s:Shared}{K:Frag}
def JR(h:Heap):Heap:={h with objs:= #[]}
def ledger(h:Heap)(L d:Addr):aV:=(List.range h.objs.size).filterMap fun a=>if a=L\/a=d then none else(h.get? a).map fun o=>(a,o)
end
end RG
namespace L2
open PySem PySem.Spec PyProof.Rows
theorem Ar:∀{vs:List Value} {ns:List Int},IntsAre vs ns ->Vals (ns.map V.int) vs
 | _,_,.nil=> .nil
 | _,_,.cons n t h=> .cons ⟨t,rfl⟩ (Ar h)
def Only(H:Hp):Prop:=∀b,H b=none\/∃o xs,H b=some (.frz o (.lst xs))
theorem zq8{P:Program}{w:World}{K:W.Frag}{mg mb:Str ->Option Value}{CX:qt}{k:Nat}{fa a:Addr}{fd:FuncData}{x:Str}{sp:Sp}{s₁:Shared}{vs:List Value}{ns:List Int}
  (KX:K.In s₁.heap) (hns:s₁.heap.Ns mainGlobals mg) (hb:s₁.heap.Ns builtinsNs mb) (hbb:∀x:Str,x≠ "__name__" ->mb x=bootBuiltins x) (hlim:s₁.heap.NoLimit) (hg:s₁.gens= #[])
  (ha:s₁.heap.get? a=some {cls:= .type "list",data:= .seq vs.toArray}) (hi:IntsAre vs ns) (hl:ns.length<=sizeLine) (hr:bT k callerA)
  (F:∀base:Heap,K.In base ->base.Ns mainGlobals mg ->cJ P w K mg base CX k fa fd [x] sp) (hbind:∀(s:Shared) (u:Value),BindsTo s fd ⟨[u],[]⟩ [(x,u)])
  (hsp:∀H:Hp,Only H ->dW K H a (ns.map V.int) ->sp [.ref a] H (fun v _=>v= .bl true) fun _ _ _=>False)
  (JT:∀H e s',CX [] H s₁ (fun _ _ _=>False) e s' ->False):
  codeAny (model P w) callerA (.call (.ref fa) ⟨[.ref a],[]⟩) (fun r s' =>r= .ok (.ret (.bool true))/\OldK s₁.heap s'.heap/\s'.os=s₁.os/\AllBare s'.gens) s₁:=by
 have rv:=Ar hi;have lenV:=hi.length
 
 have core:∀H:Hp,Only H ->dW K H a (ns.map V.int) ->gY P w H s₁.heap ->(∀b,H b≠none ->b=a) ->(H a≠none ->K.lookup a=none) ->
   codeAny (model P w) callerA (.call (.ref fa) ⟨[.ref a],[]⟩) (fun r s' =>r= .ok (.ret (.bool true))/\OldK s₁.heap s'.heap/\s'.os=s₁.os/\AllBare s'.gens) s₁:=by
  intro H hO hS hok hA hK;have o8:∀{b:Addr} {o:Obj},s₁.heap.get? b=some o ->H b=none ->(lC s₁.heap H).get? b=some o:=fun e n=>Yq e n;have Af:∀{b:Addr} {o:Obj} {es:Array DictEntry} {ep:Nat},s₁.heap.get? b=some o ->o.data= .dict es ep ->H b=none:=fun{b o es ep} e d=>by
   cases q:H b with
   | none=>rfl
   | some u=>
    have e' :b=a:=hA b (by rw[q];simp)
    subst e';rw[ha] at e;cases e;have d' :Data.seq vs.toArray _=Data.dict es ep:=d;cases d'
  have Fj:∀{b:Addr} {m:Str ->Option Value},s₁.heap.Ns b m ->(lC s₁.heap H).Ns b m:=fun{b m} Av=>by obtain⟨o,es,ep,e,d,r⟩:=Av;exact⟨o,es,ep,o8 e (Af e d),d,r⟩
  have RJ:K.In (lC s₁.heap H):=fun b o e=>o8 (KX b o e) (by
   cases q:H b with
   | none=>rfl
   | some u=>
    have e' :b=a:=hA b (by rw[q];simp)
    subst e';rw[hK (by rw[q];simp)] at e;cases e)
  have hM:Mod K mg (lC s₁.heap H):=⟨RJ,Fj hns,⟨mb,Fj hb,hbb⟩,let ⟨mc,h1,h2⟩:=hlim;⟨mc,Fj h1,h2⟩⟩;have e0:nR P w K mg (lC s₁.heap H) callerA [] s₁ H:=⟨rfl,hM,fun b o e=>Yr e,Nat.le_of_eq (Yp _ _),trivial,fun b hb=>absurd (show b∈ ([]:List Addr) from hb) (by simp),hok,.of_eq hg⟩
  refine codeAny_mono ((F _ RJ (Fj hns)).run callerA [] s₁ H ⟨[.ref a],[]⟩ [.ref a] [.ref a] _ _ hr e0 (hbind s₁ (.ref a)) (.cons rfl .nil) (hsp H hO hS)) fun r s' h=> ?_;cases r with
  | error e=>exact(JT H e s' h).elim
  | ok fl=>
   cases fl with
   | next=>exact False.elim h
   | brk=>exact False.elim h
   | cont=>exact False.elim h
   | ret u=>
    obtain⟨v,H',os,bare,un,hok',r',q⟩:=h;have q' :v= .bl true:=q;subst q';obtain rfl:u=Value.bool true:=r';refine⟨rfl,OldK.of_keep fun b o e=> ?_,os,bare⟩;cases q:H b with
    | none=>exact un.keep b o e q (by intro z;exact absurd (show b∈ ([]:List Addr) from z) (by simp)) (by simp)
    | some u=>
     rcases hO b with z | ⟨ob,xs,z⟩
     ·rw[q] at z;cases z
     ·have z2:=un.fW b ob _ z;obtain⟨e1,_⟩:=hok b _ z;obtain⟨e2,_⟩:=hok' b _ z2;rw[e] at e1;cases e1;exact e2
 cases hk:K.lookup a with
 | some o=>
  
  have e:=KX a o hk;rw[ha] at e;cases e;refine core (fun _=>none) (fun _=> .inl rfl) (.inr ⟨_,vs.toArray,_,hk,rfl,rfl,rfl,by rw[List.size_toArray,lenV];exact hl,by simpa using rv⟩) (fun b u z=>by have z' :(none:Option HO)=some u:=z;cases z') (fun b z=>absurd rfl z) fun z=>absurd rfl z
 | none=>
  refine core (fun b=>if b=a then some (.frz {cls:= .type "list",data:= .seq vs.toArray} (.lst (ns.map V.int))) else none) (fun b=> ?_) (.inl (.inr ⟨{cls:= .type "list",data:= .seq vs.toArray},if_pos rfl⟩)) (fun b u z=> ?_) (fun b z=> ?_) fun _=>hk
  ·by_cases hb:b=a
   ·exact .inr ⟨_,_,if_pos hb⟩
   ·exact .inl (if_neg hb)
  ·by_cases hb:b=a
   ·have z' :=(if_pos hb).symm.trans z;cases z';subst hb;exact⟨ha,by rw[List.length_map];exact hl,vs,_,rv,ha⟩
   ·have z' :=(if_neg hb).symm.trans z;cases z'
  ·by_cases hb:b=a
   ·exact hb
   ·exact absurd (if_neg hb) z
abbrev KOf{K:W.Frag}{h:Heap}(_:K.In h):W.Frag:=K
def zt0(s:Stmt)(j:Nat):Stmt:=match s with
 | .ClassDef _ _ _ body _ _ _ _ _ _ _=>body.getD j (.Pass ⟨0,0,0,0⟩)
 | _=> .Pass ⟨0,0,0,0⟩
def uh(s:Stmt):Arguments:=match s with
 | .FunctionDef _ a _ _ _ _ _ _ _ _=>a
 | _=>{posonlyargs:= [],args:= [],vararg:=none,kwonlyargs:= [],kw_defaults:= [],kwarg:=none,defaults:= []}
def pJ(s:Stmt):List Stmt:=match s with
 | .FunctionDef _ _ b _ _ _ _ _ _ _=>b
 | _=> []
def bF(s:Stmt):Scope:=match s with
 | .FunctionDef _ _ _ _ _ _ sc _ _ _=>sc
 | _=>{kind:= .function,names:= [],isGenerator:=false,isCoroutine:=false}
abbrev CX0:qt:=fun _ _ _ _ _ _=>False
abbrev E0:XK:=fun _ _ _=>False
structure fK (K:W.Frag) (x qual:Str) (st:Stmt) (f:Addr) (fd:FuncData):Prop where
 ex:∃(oc:Value) (od:Option Addr) (kV doc pm:Value) (an:Option Addr) (cdv ct:Value) (osl:Array (Option Value)),
  fd=W.fnOf x qual (uh st) (pJ st) (bF st) .none kV doc pm an cdv ct/\K.lookup f=some ⟨oc,od,.func fd,osl⟩/\W.codeIn K cdv qual=true
 kp:W.keepIn K (.ref f)=true
section
variable{P:Program}{w:World}{K:W.Frag}{mg:Str ->Option Value}{base:Heap}
theorem fK.binds{x qual:Str}{st:Stmt}{f:Addr}{fd:FuncData}{ps:List Str}(F:fK K x qual st f fd)
  (h:∀(kV doc pm:Value) (an:Option Addr) (cdv ct:Value) (us:List Value),us.length=ps.length ->bindArgs (W.fnOf x qual (uh st) (pJ st) (bF st) .none kV doc pm an cdv ct) ⟨us,[]⟩=pure (ps.zip us)):Binds K fd ps []:=by
 obtain⟨oc,od,kV,doc,pm,an,cdv,ct,osl,rfl,lk,hcd⟩:=F.ex;exact .all (h kV doc pm an cdv ct)
end
section
variable{X:Cx}
end
def Same(H H' :Hp):Prop:=∀b o,H b=some o ->H' b=some o
theorem Same.refl(H:Hp):Same H H:=fun _ _ h=>h
theorem Same.trans{H H1 H2:Hp}(a:Same H H1)(b:Same H1 H2):Same H H2:=fun c o h=>b c o (a c o h)
theorem Same.free{H H' :Hp}(e:Same H H'){l:Addr}(h:H' l=Option.none):H l=Option.none:=by
 cases q:H l with
 | none=>rfl
 | some o=>
  rw[e l o q] at h;cases h
theorem Same.seq{K:W.Frag}{H H' :Hp}{a:Addr}{xs:List V}(e:Same H H')(h:dW K H a xs):dW K H' a xs:=by
 rcases h with (h | ⟨o,h⟩) | h
 ·exact .inl (.inl (e _ _ h))
 ·exact .inl (.inr ⟨o,e _ _ h⟩)
 ·exact .inr h
section
variable{X:Cx}
end
section
variable{κ:Type}[DecidableEq κ]
end
end L2
namespace L3
open PySem PySem.Spec PyProof.Rows L2
abbrev St:=L2.St
inductive D where
 | non | bl (b:Bool) | int (i:Int) | str (x:Str) | tup (xs:List D) | lst (xs:List D) | exc (C:Addr) | ptr (a:Addr)
 | obj (C:Addr) (fs:List Str) (xs:List D) | fB (ks:List Key) (xs:List D) | fU (ks:List (List Key)) (xs:List D) | n6 (ks:List Key) (xs:List D)
def eE(a C:Addr):HO:= .ext fun h=>∃o vs,h.get? a=some o/\o.cls= .ref C/\o.data= .fields vs/\vs[2]?=some Value.none
def wg(F:Hp)(a:Addr):Prop:=∃o C,F a=some (.frz o (eE a C))
mutual
def Rep(K:W.Frag)(F:Hp):D ->V ->Prop
 | .non,v=>v= .non
 | .bl b,v=>v= .bl b
 | .int i,v=>v= .int i
 | .str x,v=>v= .str x
 | .tup ds,v=>∃a vs,v= .ref a/\iw K F a vs/\ak K F ds vs
 | .lst ds,v=>∃a vs,v= .ref a/\dW K F a vs/\ak K F ds vs
 | .exc C,v=>∃a o,v= .ref a/\F a=some (.frz o (eE a C))
 | .ptr a,v=>v= .ref a
 | .obj C fs ds,v=>∃a dx vs,v= .ref a/\F a=some (.ins C dx (fs.zip vs))/\fs.length=vs.length/\ak K F ds vs
 | .fB ks ds,v=>∃a vs,v= .ref a/\F a=some (.dK (ks.zip vs))/\ks.length=vs.length/\ak K F ds vs
 | .fU ks ds,v=>∃a vs,v= .ref a/\F a=some (.dT (ks.zip vs))/\ks.length=vs.length/\ak K F ds vs
 | .n6 ks ds,v=>∃a o vs,v= .ref a/\F a=some (.frz o (.dK (ks.zip vs)))/\ks.length=vs.length/\ak K F ds vs
def ak(K:W.Frag)(F:Hp):List D ->List V ->Prop
 | [],vs=>vs= []
 | d::ds,vs=>∃v r,vs=v::r/\Rep K F d v/\ak K F ds r
end
theorem jy{K:W.Frag}{H H' :Hp}{a:Addr}{xs:List V}(e:Same H H')(h:iw K H a xs):iw K H' a xs:=by
 rcases h with (h | ⟨o,h⟩) | h
 ·exact .inl (.inl (e _ _ h))
 ·exact .inl (.inr ⟨o,e _ _ h⟩)
 ·exact .inr h
mutual
theorem JV{K:W.Frag}{F F' :Hp}(e:Same F F'):∀(d:D) (v:V),Rep K F d v ->Rep K F' d v
 | .non,_,h=>by unfold Rep at h⊢;exact h
 | .bl _,_,h=>by unfold Rep at h⊢;exact h
 | .int _,_,h=>by unfold Rep at h⊢;exact h
 | .str _,_,h=>by unfold Rep at h⊢;exact h
 | .tup ds,_,h=>by
  unfold Rep at h⊢;obtain⟨a,vs,h0,h1,h2⟩:=h;exact⟨a,vs,h0,jy e h1,u5 e ds vs h2⟩
 | .lst ds,_,h=>by
  unfold Rep at h⊢;obtain⟨a,vs,h0,h1,h2⟩:=h;exact⟨a,vs,h0,e.seq h1,u5 e ds vs h2⟩
 | .ptr _,_,h=>by unfold Rep at h⊢;exact h
 | .exc C,_,h=>by
  unfold Rep at h⊢;obtain⟨a,o,h0,h1⟩:=h;exact⟨a,o,h0,e _ _ h1⟩
 | .obj C fs ds,_,h=>by
  unfold Rep at h⊢;obtain⟨a,dx,vs,h0,h1,h3,h4⟩:=h;exact⟨a,dx,vs,h0,e _ _ h1,h3,u5 e ds vs h4⟩
 | .fB ks ds,_,h=>by
  unfold Rep at h⊢;obtain⟨a,vs,h0,h1,h3,h4⟩:=h;exact⟨a,vs,h0,e _ _ h1,h3,u5 e ds vs h4⟩
 | .fU ks ds,_,h=>by
  unfold Rep at h⊢;obtain⟨a,vs,h0,h1,h3,h4⟩:=h;exact⟨a,vs,h0,e _ _ h1,h3,u5 e ds vs h4⟩
 | .n6 ks ds,_,h=>by
  unfold Rep at h⊢;obtain⟨a,o,vs,h0,h1,h3,h4⟩:=h;exact⟨a,o,vs,h0,e _ _ h1,h3,u5 e ds vs h4⟩
theorem u5{K:W.Frag}{F F' :Hp}(e:Same F F'):∀(ds:List D) (vs:List V),ak K F ds vs ->ak K F' ds vs
 | [],_,h=>by unfold ak at h⊢;exact h
 | d::ds,_,h=>by
  unfold ak at h⊢;obtain⟨v,r,h0,h1,h2⟩:=h;exact⟨v,r,h0,JV e d v h1,u5 e ds r h2⟩
end
theorem Rep.up{K:W.Frag}{F F' :Hp}{d:D}{v:V}(h:Rep K F d v)(e:Same F F'):Rep K F' d v:=JV e d v h
theorem ak.up{K:W.Frag}{F F' :Hp}{ds:List D}{vs:List V}(h:ak K F ds vs)(e:Same F F'):ak K F' ds vs:=u5 e ds vs h
theorem fY{K:W.Frag}{F:Hp}:∀{ds:List D} {vs:List V},ak K F ds vs ->ds.length=vs.length
 | [],_,h=>by unfold ak at h;subst h;rfl
 | _::_,_,h=>by
  unfold ak at h;obtain⟨v,r,rfl,_,h2⟩:=h;simp only [List.length_cons,fY h2]
theorem o9{K:W.Frag}{F:Hp}:∀{ds:List D} {vs:List V} {i:Nat} {d:D},ak K F ds vs ->ds[i]?=some d ->∃v,vs[i]?=some v/\Rep K F d v
 | [],_,_,_,_,e=>by simp at e
 | _::_,_,0,_,h,e=>by
  unfold ak at h;obtain⟨v,r,rfl,h1,_⟩:=h;simp at e;subst e;exact⟨v,rfl,h1⟩
 | _::_,_,i+1,d,h,e=>by
  unfold ak at h;obtain⟨v,r,rfl,_,h2⟩:=h;obtain⟨u,e1,e2⟩:=o9 (i:=i) h2 (by simpa using e)
  exact⟨u,by simpa using e1,e2⟩
theorem RK{K:W.Frag}{F:Hp}:∀{ds:List D} {vs:List V} {i:Nat} {v:V},ak K F ds vs ->vs[i]?=some v ->∃d,ds[i]?=some d/\Rep K F d v
 | [],_,_,_,h,e=>by unfold ak at h;subst h;simp at e
 | d::_,_,0,_,h,e=>by
  unfold ak at h;obtain⟨v,r,rfl,h1,_⟩:=h;simp at e;subst e;exact⟨d,rfl,h1⟩
 | _::_,_,i+1,v,h,e=>by
  unfold ak at h;obtain⟨v',r,rfl,_,h2⟩:=h;obtain⟨u,e1,e2⟩:=RK (i:=i) h2 (by simpa using e)
  exact⟨u,by simpa using e1,e2⟩
theorem yt{K:W.Frag}{F:Hp}:∀{ds es:List D} {vs us:List V},ak K F ds vs ->ak K F es us ->ak K F (ds++es) (vs++us)
 | [],_,_,_,h,k=>by unfold ak at h;subst h;exact k
 | _::_,_,_,_,h,k=>by
  unfold ak at h;obtain⟨v,r,rfl,h1,h2⟩:=h;show ak K F (_::(_++_)) _;unfold ak;exact⟨v,_,rfl,h1,yt h2 k⟩
theorem yu{K:W.Frag}{F:Hp}{d:D}{v:V}(h:Rep K F d v):ak K F [d] [v]:=by
 unfold ak;exact⟨v,[],rfl,h,by unfold ak;rfl⟩
theorem pq{K:W.Frag}{F:Hp}{d:D}{v:V}{ds:List D}{vs:List V}(h:Rep K F d v)(k:ak K F ds vs):ak K F (d::ds) (v::vs):=by
 unfold ak;exact⟨v,vs,rfl,h,k⟩
theorem JW{K:W.Frag}{F:Hp}:∀{ds:List D} {vs:List V} (n:Nat),ak K F ds vs ->ak K F (ds.take n) (vs.take n)
 | _,_,0,_=>by simp [ak]
 | [],_,_+1,h=>by unfold ak at h;subst h;simp [ak]
 | _::_,_,n+1,h=>by
  unfold ak at h;obtain⟨u,r,rfl,h1,h2⟩:=h;exact pq h1 (JW n h2)
theorem JX{K:W.Frag}{F:Hp}:∀{ds:List D} {vs:List V} (n:Nat),ak K F ds vs ->ak K F (ds.drop n) (vs.drop n)
 | _,_,0,h=>h
 | [],_,_+1,h=>by unfold ak at h;subst h;simp [ak]
 | _::_,_,n+1,h=>by
  unfold ak at h;obtain⟨u,r,rfl,h1,h2⟩:=h;exact JX n h2
def lD(H:Hp)(b:Addr)(o:HO):Prop:=H b=none\/ (∃xs,o= .tup xs)/\H b=some o
theorem lD.back(s:Same H H1)(h:lD H1 b o):lD H b o:=by
 rcases h with h | ⟨⟨xs,e⟩,h⟩
 ·exact .inl (s.free h)
 ·cases q:H b with
  | none=>exact .inl q
  | some u=>
   have:=s _ _ q;rw[h] at this;cases this;exact .inr ⟨⟨xs,e⟩,q⟩
structure Gr (F H F' H' :Hp):Prop where
 f:Same F F'
 g:Same F' H'
 h:Same H H'
 n:∀b o,F' b=some o ->F b=none ->lD H b o
theorem Gr.refl(h:Same F H):Gr F H F H:=⟨.refl _,h,.refl _,fun b o e n=>by rw[e] at n;cases n⟩
theorem Gr.trans(a:Gr F H F1 H1)(b:Gr F1 H1 F2 H2):Gr F H F2 H2:=by
 refine⟨a.f.trans b.f,b.g,a.h.trans b.h,fun c o e n=> ?_⟩;cases q:F1 c with
 | none=>exact lD.back a.h (b.n c o e q)
 | some u=>have:=b.f _ _ q;rw[e] at this;cases this;exact a.n c _ q n
theorem Gr.laid(h:Same F H)(hp:H p=none):Gr F H (L2.upd F p o) (L2.upd H p o):=by
 refine⟨fun b u e=> ?_,fun b u e=> ?_,fun b u e=> ?_,fun b u e n=> ?_⟩
 ·rw[bC (eO (h b u e) hp)];exact e
 ·by_cases hb:b=p
  ·subst hb;rw[iu] at e⊢;exact e
  ·rw[bC hb] at e⊢;exact h b u e
 ·rw[bC (eO e hp)];exact e
 ·by_cases hb:b=p
  ·subst hb;exact .inl hp
  ·rw[bC hb,n] at e;cases e
inductive T where
 | leaf (d:D) | lst (ts:List T) | fB (ks:List L2.Key) (ts:List T) | fU (ks:List (List L2.Key)) (ts:List T) | ob (C:Addr) (fs:List Str) (ts:List T) | kt (k:List L2.Key)
def cX:Key ->D | .inl i=> .int i | .inr x=> .str x
def pK(fs:List Str):Bool:= !decide (fs= [("points" :Str)])
mutual
def TR(K:W.Frag)(F H:Hp):T ->V ->List Addr ->Prop
 | .leaf d,v,as=>as= []/\Rep K F d v
 | .lst ts,v,as=>∃a vs bs,v= .ref a/\as=a::bs/\H a=some (.lst vs)/\bB K F H ts vs bs
 | .fB ks ts,v,as=>∃a vs bs,v= .ref a/\as=a::bs/\H a=some (.dK (ks.zip vs))/\ks.length=vs.length/\bB K F H ts vs bs
 | .fU ks ts,v,as=>∃a vs bs,v= .ref a/\as=a::bs/\H a=some (.dT (ks.zip vs))/\ks.length=vs.length/\bB K F H ts vs bs
 | .ob C fs ts,v,as=>∃a dx vs bs,v= .ref a/\as=a::dx::bs/\H a=some (.ins C dx (fs.zip vs))/\H dx=some (.own a)/\fs.length=vs.length/\pK fs=true/\bB K F H ts vs bs
 | .kt k,v,as=>as= []/\∃a,v= .ref a/\F a=some (.tup (k.map kV))
def bB(K:W.Frag)(F H:Hp):List T ->List V ->List Addr ->Prop
 | [],vs,as=>vs= []/\as= []
 | t::ts,vs,as=>∃v us bs cs,vs=v::us/\as=bs++cs/\TR K F H t v bs/\bB K F H ts us cs
end
section
variable{K:W.Frag}{F H F' H' :Hp}
mutual
theorem TR.move(f:Same F F'):∀(t:T) (v:V) (as:List Addr),(∀a∈as,∀u,H a=some u ->H' a=some u) ->TR K F H t v as ->TR K F' H' t v as
 | .leaf d,v,as,k,h=>by unfold TR at h⊢;exact⟨h.1,h.2.up f⟩
 | .lst ts,v,as,k,h=>by
  unfold TR at h⊢;obtain⟨a,vs,bs,e1,rfl,e3,h⟩:=h;exact⟨a,vs,bs,e1,rfl,k a zY _ e3,bB.move f ts vs bs (fun b hb=>k b (zX _ hb)) h⟩
 | .fB ks ts,v,as,k,h=>by
  unfold TR at h⊢;obtain⟨a,vs,bs,e1,rfl,e3,e4,h⟩:=h;exact⟨a,vs,bs,e1,rfl,k a zY _ e3,e4,bB.move f ts vs bs (fun b hb=>k b (zX _ hb)) h⟩
 | .fU ks ts,v,as,k,h=>by
  unfold TR at h⊢;obtain⟨a,vs,bs,e1,rfl,e3,e4,h⟩:=h;exact⟨a,vs,bs,e1,rfl,k a zY _ e3,e4,bB.move f ts vs bs (fun b hb=>k b (zX _ hb)) h⟩
 | .ob C fs ts,v,as,k,h=>by
  unfold TR at h⊢;obtain⟨a,dx,vs,bs,e1,rfl,e3,e4,e5,e6,h⟩:=h;exact⟨a,dx,vs,bs,e1,rfl,k a zY _ e3,k dx (zX _ zY) _ e4,e5,e6,bB.move f ts vs bs (fun b hb=>k b (zX _ (zX _ hb))) h⟩
 | .kt _,v,as,k,h=>by unfold TR at h⊢;obtain⟨e,a,e1,e2⟩:=h;exact⟨e,a,e1,f _ _ e2⟩
theorem bB.move(f:Same F F'):∀(ts:List T) (vs:List V) (as:List Addr),(∀a∈as,∀u,H a=some u ->H' a=some u) ->bB K F H ts vs as ->bB K F' H' ts vs as
 | [],vs,as,k,h=>by unfold bB at h⊢;exact h
 | t::ts,vs,as,k,h=>by
  unfold bB at h⊢;obtain⟨v,us,bs,cs,e1,rfl,h1,h2⟩:=h;exact⟨v,us,bs,cs,e1,rfl,TR.move f t v bs (fun b hb=>k b (zQ _ hb)) h1,bB.move f ts us cs (fun b hb=>k b (zR _ hb)) h2⟩
end
def LD(u:HO):Prop:=(∃vs,u= .lst vs)\/ (∃kvs,u= .dK kvs)\/ (∃kvs,u= .dT kvs)\/ (∃C dx kvs,u= .ins C dx kvs/\pK (kvs.map (·.1))=true)\/∃a,u= .own a
theorem JZ:∀{fs:List Str} {vs:List V},fs.length=vs.length ->(fs.zip vs).map (·.1)=fs
 | [],_,_=>rfl
 | _::_,[],h=>by cases h
 | f::fs,v::vs,h=>by rw[List.zip_cons_cons,List.map_cons,JZ (by simpa using h)]
theorem LD.tup(h:LD (.tup xs)):False:=by rcases h with ⟨_,z⟩ | ⟨_,z⟩ | ⟨_,z⟩ | ⟨_,_,_,z,_⟩ | ⟨_,z⟩<;>cases z
theorem LD.frz(h:LD (.frz o u)):False:=by rcases h with ⟨_,z⟩ | ⟨_,z⟩ | ⟨_,z⟩ | ⟨_,_,_,z,_⟩ | ⟨_,z⟩<;>cases z
theorem LD.ins(h:LD (.ins C dx kvs)):pK (kvs.map (·.1))=true:=by
 rcases h with ⟨_,z⟩ | ⟨_,z⟩ | ⟨_,z⟩ | ⟨_,_,_,z,q⟩ | ⟨_,z⟩<;>cases z
 exact q
mutual
theorem TR.there:∀(t:T) (v:V) (as:List Addr),TR K F H t v as ->∀a∈as,∃u,H a=some u/\LD u
 | .leaf d,v,as,h,a,ha=>by unfold TR at h;rw[h.1] at ha;cases ha
 | .lst ts,v,as,h,a,ha=>by
  unfold TR at h;obtain⟨b,vs,bs,e1,rfl,e3,h⟩:=h;rcases zV.mp ha with rfl | ha
  ·exact⟨_,e3,.inl ⟨_,rfl⟩⟩
  ·exact bB.there ts vs bs h a ha
 | .fB ks ts,v,as,h,a,ha=>by
  unfold TR at h;obtain⟨b,vs,bs,e1,rfl,e3,_,h⟩:=h;rcases zV.mp ha with rfl | ha
  ·exact⟨_,e3,.inr (.inl ⟨_,rfl⟩)⟩
  ·exact bB.there ts vs bs h a ha
 | .fU ks ts,v,as,h,a,ha=>by
  unfold TR at h;obtain⟨b,vs,bs,e1,rfl,e3,_,h⟩:=h;rcases zV.mp ha with rfl | ha
  ·exact⟨_,e3,.inr (.inr (.inl ⟨_,rfl⟩))⟩
  ·exact bB.there ts vs bs h a ha
 | .ob C fs ts,v,as,h,a,ha=>by
  unfold TR at h;obtain⟨b,dx,vs,bs,e1,rfl,e3,e4,e5,e6,h⟩:=h;rcases zV.mp ha with rfl | ha
  ·exact⟨_,e3,.inr (.inr (.inr (.inl ⟨_,_,_,rfl,by rw[JZ e5];exact e6⟩)))⟩
  ·rcases zV.mp ha with rfl | ha
   ·exact⟨_,e4,.inr (.inr (.inr (.inr ⟨_,rfl⟩)))⟩
   ·exact bB.there ts vs bs h a ha
 | .kt _,v,as,h,a,ha=>by unfold TR at h;rw[h.1] at ha;cases ha
theorem bB.there:∀(ts:List T) (vs:List V) (as:List Addr),bB K F H ts vs as ->∀a∈as,∃u,H a=some u/\LD u
 | [],vs,as,h,a,ha=>by unfold bB at h;rw[h.2] at ha;cases ha
 | t::ts,vs,as,h,a,ha=>by
  unfold bB at h;obtain⟨v,us,bs,cs,e1,rfl,h1,h2⟩:=h;rcases zU.mp ha with ha | ha
  ·exact TR.there t v bs h1 a ha
  ·exact bB.there ts us cs h2 a ha
end
end
mutual
def toD:T ->D
 | .leaf d=>d
 | .lst ts=> .lst (gK ts)
 | .fB ks ts=> .fB ks (gK ts)
 | .fU ks ts=> .fU ks (gK ts)
 | .ob C fs ts=> .obj C fs (gK ts)
 | .kt k=> .tup (k.map cX)
def gK:List T ->List D
 | []=> []
 | t::ts=>toD t::gK ts
end
theorem J0{K:W.Frag}{F:Hp}:∀ks:List Key,ak K F (ks.map cX) (ks.map kV)
 | []=>by unfold List.map ak;rfl
 | .inl i::ks=>pq (by unfold cX Rep;rfl) (J0 ks)
 | .inr x::ks=>pq (by unfold cX Rep;rfl) (J0 ks)
section
variable{K:W.Frag}{F H F' :Hp}
mutual
theorem TR.rep(f:Same F F'):∀(t:T) (v:V) (as:List Addr),(∀a∈as,∀u,H a=some u ->F' a=some u) ->TR K F H t v as ->Rep K F' (toD t) v
 | .leaf d,v,as,k,h=>by unfold TR at h;unfold toD;exact h.2.up f
 | .lst ts,v,as,k,h=>by
  unfold TR at h;obtain⟨a,vs,bs,e1,rfl,e3,h⟩:=h;unfold toD Rep;exact⟨a,vs,e1,.inl (.inl (k a zY _ e3)),bB.rep f ts vs bs (fun b hb=>k b (zX _ hb)) h⟩
 | .fB ks ts,v,as,k,h=>by
  unfold TR at h;obtain⟨a,vs,bs,e1,rfl,e3,e4,h⟩:=h;unfold toD Rep;exact⟨a,vs,e1,k a zY _ e3,e4,bB.rep f ts vs bs (fun b hb=>k b (zX _ hb)) h⟩
 | .fU ks ts,v,as,k,h=>by
  unfold TR at h;obtain⟨a,vs,bs,e1,rfl,e3,e4,h⟩:=h;unfold toD Rep;exact⟨a,vs,e1,k a zY _ e3,e4,bB.rep f ts vs bs (fun b hb=>k b (zX _ hb)) h⟩
 | .ob C fs ts,v,as,k,h=>by
  unfold TR at h;obtain⟨a,dx,vs,bs,e1,rfl,e3,e4,e5,e6,h⟩:=h;unfold toD Rep;exact⟨a,dx,vs,e1,k a zY _ e3,e5,bB.rep f ts vs bs (fun b hb=>k b (zX _ (zX _ hb))) h⟩
 | .kt k,v,as,_,h=>by
  unfold TR at h;obtain⟨_,a,e1,e2⟩:=h;unfold toD Rep;exact⟨a,_,e1,.inl (.inl (f _ _ e2)),J0 k⟩
theorem bB.rep(f:Same F F'):∀(ts:List T) (vs:List V) (as:List Addr),(∀a∈as,∀u,H a=some u ->F' a=some u) ->bB K F H ts vs as ->ak K F' (gK ts) vs
 | [],vs,as,k,h=>by unfold bB at h;unfold gK ak;exact h.1
 | t::ts,vs,as,k,h=>by
  unfold bB at h;obtain⟨v,us,bs,cs,e1,rfl,h1,h2⟩:=h;unfold gK ak;exact⟨v,us,e1,TR.rep f t v bs (fun b hb=>k b (zQ _ hb)) h1,bB.rep f ts us cs (fun b hb=>k b (zR _ hb)) h2⟩
end
end
inductive Slot where
 | no | pu (d:D) | ow (ds:List D) | tr (as:List Addr) (t:T) | nt (as:List Addr) (c:Str) (t:T) | xe (as:List Addr) (C:Addr) (fs:List Str) (ts:List T)
def fL(K:W.Frag)(F H H0:Hp):Slot ->Option V ->Prop
 | .no,_=>True
 | .pu d,o=>∃v,o=some v/\Rep K F d v
 | .ow ds,o=>∃a vs,o=some (.ref a)/\H a=some (.lst vs)/\F a=none/\H0 a=none/\ak K F ds vs
 | .tr as t,o=>∃v,o=some v/\as.Nodup/\ (∀b∈as,F b=none/\H0 b=none)/\TR K F H t v as
 | .nt as c t,o=>∃p v,o=some (.ref p)/\F p=some (.tup [.str c,v])/\as.Nodup/\ (∀b∈as,F b=none/\H0 b=none)/\TR K F H t v as
 | .xe as C fs ts,o=>∃a oe dx vs,o=some (.ref a)/\F a=some (.frz oe (eE a C))/\oe.dict=some dx/\F dx=some (.xd (fs.zip vs))/\fs.length=vs.length/\as.Nodup/\ (∀b∈as,F b=none/\H0 b=none)/\bB K F H ts vs as
def dN:Slot ->Option V ->Addr ->Prop
 | .ow _,o,a=>o=some (.ref a)
 | .tr as _,_,a=>a∈as
 | .nt as _ _,_,a=>a∈as
 | .xe as _ _ _,_,a=>a∈as
 | _,_,_=>False
def eU(Γ:List Slot)(σ:St)(i:Nat)(a:Addr):Prop:=∃s o,Γ[i]?=some s/\σ[i]?=some o/\dN s o a
structure SR (K:W.Frag) (F0 H0 F H:Hp) (σ:St) (Γ:List Slot):Prop where
 gr:Gr F0 H0 F H
 len:σ.length=Γ.length
 sl:∀(i:Nat) s,Γ[i]?=some s ->∃o,σ[i]?=some o/\fL K F H H0 s o
 ap:∀(i j:Nat) a,eU Γ σ i a ->eU Γ σ j a ->i=j
section
variable{K:W.Frag}{F0 H0 F H F' H' :Hp}{σ:St}{Γ:List Slot}
theorem SR.g(R:SR K F0 H0 F H σ Γ):Same F H:=R.gr.g
theorem pL(r:fL K F H H0 s o)(h:dN s o a):F a=none/\H0 a=none/\∃u,H a=some u/\LD u:=by
 cases s with
 | no=>exact h.elim
 | pu d=>exact h.elim
 | ow ds=>obtain⟨b,vs,rfl,h1,h2,h3,_⟩:=r;cases h;exact⟨h2,h3,_,h1,.inl ⟨_,rfl⟩⟩
 | tr as t=>obtain⟨v,_,_,h2,h3⟩:=r;exact⟨(h2 a h).1,(h2 a h).2,TR.there t v as h3 a h⟩
 | nt as c t=>obtain⟨p,v,_,_,_,h2,h3⟩:=r;exact⟨(h2 a h).1,(h2 a h).2,TR.there t v as h3 a h⟩
 | xe as C fs ts=>obtain⟨_,_,_,vs,_,_,_,_,_,_,h2,h3⟩:=r;exact⟨(h2 a h).1,(h2 a h).2,bB.there ts vs as h3 a h⟩
theorem Aw(r:fL K F H H0 s o)(f:Same F F')(k:∀a,dN s o a ->F' a=none/\∀u,H a=some u ->H' a=some u):fL K F' H' H0 s o:=by
 cases s with
 | no=>trivial
 | pu d=>
  obtain⟨v,e,r⟩:=r;exact⟨v,e,r.up f⟩
 | ow ds=>
  obtain⟨a,vs,e,e1,e2,e3,r⟩:=r;obtain⟨k1,k2⟩:=k a e;exact⟨a,vs,e,k2 _ e1,k1,e3,r.up f⟩
 | tr as t=>
  obtain⟨v,e,nd,h,r⟩:=r;exact⟨v,e,nd,fun b hb=>⟨(k b hb).1,(h b hb).2⟩,TR.move f t v as (fun a ha=>(k a ha).2) r⟩
 | nt as c t=>
  obtain⟨p,v,e,e1,nd,h,r⟩:=r;exact⟨p,v,e,f _ _ e1,nd,fun b hb=>⟨(k b hb).1,(h b hb).2⟩,TR.move f t v as (fun a ha=>(k a ha).2) r⟩
 | xe as C fs ts=>
  obtain⟨a,oe,dx,vs,e,e1,e2,e3,e4,nd,h,r⟩:=r;exact⟨a,oe,dx,vs,e,f _ _ e1,e2,f _ _ e3,e4,nd,fun b hb=>⟨(k b hb).1,(h b hb).2⟩,bB.move f ts vs as (fun a ha=>(k a ha).2) r⟩
theorem zm0(r:fL K F H H0 s o)(g:Gr F H F' H'):fL K F' H' H0 s o:=
 Aw r g.f fun a ha=>by
  obtain⟨h1,_,u,h3,ld⟩:=pL r ha;refine⟨?_,fun u e=>g.h _ _ e⟩;cases q:F' a with
  | none=>rfl
  | some w=>
   rcases g.n a w q h1 with z | ⟨⟨xs,e⟩,z⟩
   ·rw[h3] at z;cases z
   ·rw[h3] at z;cases z;subst e;exact ld.tup.elim
theorem SR.grow(R:SR K F0 H0 F H σ Γ)(g:Gr F H F' H'):SR K F0 H0 F' H' σ Γ:=by
 refine⟨R.gr.trans g,R.len,fun i s e=> ?_,R.ap⟩;obtain⟨o,e1,r⟩:=R.sl i s e;exact⟨o,e1,zm0 r g⟩
theorem u6(h:eU (Γ.set i s) (σ.set i o) j a):(j=i/\dN s o a)\/ (j≠i/\eU Γ σ j a):=by
 obtain⟨t,p,e1,e2,h⟩:=h;by_cases hj:i=j
 ·subst hj;have hi:i<Γ.length:=by
   rcases Nat.lt_or_ge i Γ.length with h | h
   ·exact h
   ·rw[List.getElem?_eq_none (by simpa using h)] at e1;cases e1
  have hi' :i<σ.length:=by
   rcases Nat.lt_or_ge i σ.length with h | h
   ·exact h
   ·rw[List.getElem?_eq_none (by simpa using h)] at e2;cases e2
  rw[List.getElem?_set_self hi] at e1;rw[List.getElem?_set_self hi'] at e2;cases e1;cases e2;exact .inl ⟨rfl,h⟩
 ·rw[List.getElem?_set_ne hj] at e1 e2;exact .inr ⟨Ne.symm hj,t,p,e1,e2,h⟩
def Apart(σ:St)(Γ:List Slot)(a:Addr):Prop:=∀j,¬eU Γ σ j a
theorem SR.apart(R:SR K F0 H0 F H σ Γ)(h:H a=none):Apart σ Γ a:=fun j hq1=>by
 obtain⟨s,o,e1,e2,q⟩:=hq1;obtain⟨o',e3,r⟩:=R.sl j s e1;rw[e2] at e3;cases e3;obtain⟨_,_,u,e,_⟩:=pL r q;rw[h] at e;cases e
theorem SR.put(R:SR K F0 H0 F H σ Γ)(i:Nat)(r:fL K F H H0 s o)(ha:∀a,dN s o a ->Apart σ Γ a):SR K F0 H0 F H (σ.set i o) (Γ.set i s):=by
 refine⟨R.gr,by simp [R.len],fun j t e=> ?_,fun j k a e1 e2=> ?_⟩
 ·by_cases hj:i=j
  ·subst hj;have hi:i<Γ.length:=by
    rcases Nat.lt_or_ge i Γ.length with h | h
    ·exact h
    ·rw[List.getElem?_eq_none (by simpa using h)] at e;cases e
   rw[List.getElem?_set_self hi] at e;cases e;exact⟨o,List.getElem?_set_self (by rw[R.len];exact hi),r⟩
  ·rw[List.getElem?_set_ne hj] at e;rw[List.getElem?_set_ne hj];exact R.sl j t e
 ·rcases u6 e1 with ⟨rfl,q1⟩ | ⟨n1,q1⟩
  ·rcases u6 e2 with ⟨rfl,_⟩ | ⟨_,q2⟩
   ·rfl
   ·exact(ha a q1 _ q2).elim
  ·rcases u6 e2 with ⟨rfl,q2⟩ | ⟨_,q2⟩
   ·exact(ha a q2 _ q1).elim
   ·exact R.ap j k a q1 q2
theorem SR.set(R:SR K F0 H0 F H σ Γ)(i:Nat)(r:Rep K F d v):SR K F0 H0 F H (σ.set i (some v)) (Γ.set i (.pu d)):=R.put i ⟨v,rfl,r⟩ fun _ h=>h.elim
theorem SR.drop(R:SR K F0 H0 F H σ Γ)(i:Nat)(o:Option V):SR K F0 H0 F H (σ.set i o) (Γ.set i .no):=R.put i trivial fun _ h=>h.elim
theorem SR.setOw(R:SR K F0 H0 F H σ Γ)(i:Nat)(h1:H a=some (.lst vs))(h2:F a=none)(h3:H0 a=none)(r:ak K F ds vs)(ha:Apart σ Γ a):
  SR K F0 H0 F H (σ.set i (some (.ref a))) (Γ.set i (.ow ds)):=R.put i ⟨a,vs,rfl,h1,h2,h3,r⟩ fun b h=>by cases h;exact ha
theorem Fl(g:Same F H)(h1:H a=some (.lst vs))(h2:F a=none):Same F (L2.upd F a (.lst vs))/\Same (L2.upd F a (.lst vs)) H:=by
 refine⟨fun b u e=> ?_,fun b u e=> ?_⟩
 ·rw[bC (eO e h2)];exact e
 ·by_cases hb:b=a
  ·subst hb;rw[iu] at e;cases e;exact h1
  ·rw[bC hb] at e;exact g b u e
theorem SR.frzM(R:SR K F0 H0 F H σ Γ)(s1:Same F F')(s2:Same F' H)(n:∀b u,F' b=some u ->F b=none ->H0 b=none/\Apart σ Γ b):SR K F0 H0 F' H σ Γ:=by
 refine⟨⟨R.gr.f.trans s1,s2,R.gr.h,fun b o e q=> ?_⟩,R.len,fun j s e=> ?_,R.ap⟩
 ·cases z:F b with
  | none=>exact .inl (n b o e z).1
  | some u=>have:=s1 _ _ z;rw[e] at this;cases this;exact R.gr.n b _ z q
 ·obtain⟨o,e1,r⟩:=R.sl j s e;refine⟨o,e1,Aw r s1 fun b hb=>⟨?_,fun _ q=>q⟩⟩;obtain⟨h1,_,_⟩:=pL r hb;cases q:F' b with
  | none=>rfl
  | some u=>exact((n b u q h1).2 j ⟨s,o,e,e1,hb⟩).elim
def aak(F H:Hp):Hp:=fun b=>match F b with | some u=>some u | none=>match H b with | some (.tup xs)=>some (.tup xs) | _=>none
theorem SR.frzA(R:SR K F0 H0 F H σ Γ)(h1:H a=some (.lst vs))(h2:F a=none)(h3:H0 a=none)(ha:Apart σ Γ a):SR K F0 H0 (L2.upd F a (.lst vs)) H σ Γ:=by
 obtain⟨s1,s2⟩:=Fl R.g h1 h2;refine R.frzM s1 s2 fun b u e n=> ?_;by_cases hb:b=a
 ·subst hb;exact⟨h3,ha⟩
 ·rw[bC hb,n] at e;cases e
theorem qz(e1:σ[i]?=some o):σ.set i o=σ:=by
 obtain⟨hl,e2⟩:=zW.mp e1;rw[<- e2];simp
theorem SR.less(R:SR K F0 H0 F H σ Γ)(e:Γ[i]?=some s)(e1:σ[i]?=some o)(h:dN s o a):Apart σ (Γ.set i .no) a:=fun j q=>by
 have q' :eU (Γ.set i .no) (σ.set i o) j a:=by rw[qz e1];exact q
 rcases u6 q' with ⟨_,z⟩ | ⟨n,z⟩
 ·exact z
 ·exact n (R.ap j i a z ⟨s,o,e,e1,h⟩)
theorem SR.dropAt(R:SR K F0 H0 F H σ Γ)(e1:σ[i]?=some o):SR K F0 H0 F H σ (Γ.set i .no):=by
 have q:=R.drop i o;rw[qz e1] at q;exact q
theorem SR.frz(R:SR K F0 H0 F H σ Γ)(e:Γ[i]?=some (.ow ds)):∃a F',σ[i]?=some (some (.ref a))/\Same F F' /\SR K F0 H0 F' H σ (Γ.set i (.pu (.lst ds)))/\Rep K F' (.lst ds) (.ref a):=by
 obtain⟨o,e1,a,vs,rfl,h1,h2,h3,r⟩:=R.sl i _ e;obtain⟨s1,_⟩:=Fl R.g h1 h2;have rp:Rep K (L2.upd F a (.lst vs)) (.lst ds) (.ref a):=by
  unfold Rep;exact⟨a,vs,rfl,.inl (.inl iu),r.up s1⟩
 have R2:=((R.dropAt e1).frzA h1 h2 h3 (R.less e e1 (show dN (Slot.ow ds) (some (.ref a)) a from rfl))).set i rp;rw[qz e1,List.set_set] at R2;exact⟨a,_,e1,s1,R2,rp⟩
theorem SR.wrO(R:SR K F0 H0 F H σ Γ)(e:Γ[i]?=some s)(e1:σ[i]?=some o)(h:dN s o a)(r:fL K F (L2.upd H a u) H0 t o)(ht:∀b,dN t o b ->dN s o b):
  SR K F0 H0 F (L2.upd H a u) σ (Γ.set i t):=by
 obtain⟨o',e2,r0⟩:=R.sl i _ e;rw[e1] at e2;cases e2;obtain⟨h2,h3,w,h1,_⟩:=pL r0 h;have hi:i<Γ.length:=(zW.mp e).1;have R1:SR K F0 H0 F (L2.upd H a u) σ (Γ.set i .no):=by
  have R0:=R.dropAt e1;refine⟨⟨R0.gr.f,fun b u q=> ?_,fun b u q=> ?_,fun b o q n=>R0.gr.n b o q n⟩,R0.len,fun j s' q=> ?_,R0.ap⟩
  ·rw[bC (eO q h2)];exact R0.g b u q
  ·rw[bC (eO q h3)];exact R0.gr.h b u q
  ·obtain⟨o,p1,p2⟩:=R0.sl j s' q;refine⟨o,p1,Aw p2 (.refl _) fun b hb=>⟨(pL p2 hb).1,fun u q' => ?_⟩⟩;have:b≠a:=fun z=>by subst z;exact R.less e e1 h j ⟨s',o,q,p1,hb⟩
   rw[bC this];exact q'
 have R2:=R1.put i r fun b hb=>R.less e e1 (ht b hb);rw[qz e1,List.set_set] at R2;exact R2
theorem SR.wr(R:SR K F0 H0 F H σ Γ)(e:Γ[i]?=some (.ow ds))(e1:σ[i]?=some (some (.ref a)))(r:ak K F es us):
  SR K F0 H0 F (L2.upd H a (.lst us)) σ (Γ.set i (.ow es)):=by
 obtain⟨o,e2,r0⟩:=R.sl i _ e;rw[e1] at e2;cases e2;obtain⟨h2,h3,_⟩:=pL r0 (show dN (Slot.ow ds) (some (.ref a)) a from rfl);exact R.wrO e e1 (show dN (Slot.ow ds) (some (.ref a)) a from rfl) ⟨a,us,rfl,iu,h2,h3,r⟩ fun b hb=>hb
theorem SR.base(R:SR K F0 H0 F H σ Γ):SR K F H0 F H σ Γ:=⟨⟨.refl _,R.g,R.gr.h,fun b o e n=>by rw[e] at n;cases n⟩,R.len,R.sl,R.ap⟩
theorem Gr.unbase(g:Gr F0 H0 F H)(g' :Gr F H0 F' H'):Gr F0 H0 F' H' :=by
 refine⟨g.f.trans g'.f,g'.g,g'.h,fun b o e n=> ?_⟩;cases q:F b with
 | none=>exact g'.n b o e q
 | some u=>have:=g'.f _ _ q;rw[e] at this;cases this;exact g.n b _ q n
theorem SR.unbase(g:Gr F0 H0 F H)(R:SR K F H0 F' H' σ' Γ'):SR K F0 H0 F' H' σ' Γ' :=⟨g.unbase R.gr,R.len,R.sl,R.ap⟩
end
def RL(h B:Heap)(e:Addr)(cls:Value)(dd:Option Addr)(fl:Value):Prop:=
 ∃oe vs T oT ts,h.get? e=some oe/\ (oe.cls=cls/\oe.dict=dd/\vs[2]?=some Value.none)/\oe.data= .fields vs/\vs[1]?=some (.ref T)/\B.get? T=none/\T≠e/\h.get? T=some oT/\oT.data= .fields ts/\ts[3]?=some fl
def Fo(B:Heap)(l:List Env)(a:Addr)(cls:Value)(dx:Option Addr)(h:Heap):Prop:=
 B.StaysIn h/\B.get? a=none/\h.FunFrames B l/\∃dd,(dx=none\/dx=dd)/\
  (RL h B a cls dd .none\/∃oe vs,h.get? a=some oe/\oe.cls=cls/\oe.dict=dd/\oe.data= .fields vs/\vs[1]?=some Value.none/\vs[2]?=some Value.none)
def kY(B:Heap)(l:List Env)(e:Addr)(cls:Value)(dd:Option Addr)(fl:Value)(h:Heap):Prop:=B.StaysIn h/\B.get? e=none/\h.FunFrames B l/\RL h B e cls dd fl
theorem kY.there(x:kY B l e cls dd fl h):∃ob,h.get? e=some ob/\ob.cls=cls:=by
 obtain⟨_,_,_,oe,_,_,_,_,he,hc,_⟩:=x;exact⟨oe,he,hc.1⟩
section
variable{M:Model}{A:Around}{E:bf}{s:Shared}{B:Heap}{env:Env}{outer:List Env}{L a:Addr}{cls fl:Value}{dd:Option Addr}{Q:Unit ->Shared ->Prop}
theorem zoh(f:Array Value ->Array Value)(o:Obj):(Obj.mapFields f o).dict=o.dict:=by
 unfold Obj.mapFields;split<;>rfl
theorem yw{h:Heap}{T b:Addr}{oT o:Obj}{ts:Array Value}(hT:h.get? T=some oT)(hd:oT.data= .fields ts)(hb:h.get? b=some o)(hn:∀vs,o.data≠ .fields vs):b≠T:=fun q=>by
 rw[q,hT] at hb;injection hb with hb;subst hb;exact hn ts hd
theorem qC{l:List Env}(x:kY B l a cls dd fl s.heap)(hQ:∀h',kY B l a cls dd .none h' ->s.heap.UpToSlots h' ->Q () {s with heap:=h'}):wpAny M A (setFlight (.ref a) none) Q E s:=by
 obtain⟨f1,f2,f3,oe,vs,T,oT,ts,he,hk,hd,h1,hB,hne,hT,hdT,h3⟩:=x;have far:∀b,b≠T ->(s.heap.update T (Obj.mapFields (·.setIfInBounds 3 ((none:Option Addr).elim Value.none fun f=>rawInt f)))).get? b=s.heap.get? b:=fun b hb=>Heap.get?_update_other _ _ (Ne.symm hb);have hz:3<ts.size:=(Array.getElem?_eq_some_iff.mp h3).1;unfold setFlight;refine z6 (wpAny_field he hd h1 ?_);rw[if_pos (by simp)]
 refine wpAny_setField hT hdT hz (hQ _ ⟨fun b o q=> ?_,f2,f3.of_keeps fun b o q n=>⟨o,?_,rfl⟩,oe,vs,T,_,_,(far a (Ne.symm hne)).trans he,hk,hd,h1,hB,hne,Heap.get?_update_self _ hT (Obj.isFreed_of_fields (Obj.data_mapFields hdT _)),Obj.data_mapFields hdT _,by simp [hz]⟩ fun b o q n=>⟨o.slots,?_⟩)
 ·exact(far b fun z=>by rw[z,hB] at q;cases q).trans (f1 b o q)
 ·exact(far b (yw hT hdT q n)).trans q
 ·exact(far b (yw hT hdT q n)).trans q
theorem qF{oe:Obj}{vs:Array Value}{head:Value}{more:Bool}(hfr:A.frames=some (env::outer))(hl:s.heap.FunFrames B (env::outer))(hf:env.frame=some L)(he:s.heap.get? a=some oe)(hkb:B.StaysIn s.heap)(hen:B.get? a=none)
  (hd:oe.data= .fields vs) (hz:1<vs.size) (h2:vs[2]?=some Value.none) (hQ:∀h',kY B (env::outer) a oe.cls oe.dict (rawInt L) h' ->s.heap.UpToSlots h' ->Q () {s with heap:=h'}):
  wpAny M A (do let x<- frameOf env;let pl<- entryPlaceOf L more;let b<- EntryCells.newEntry head x .none (rawInt L) .none pl;setField (.ref a) 1 b) Q E s:=by
 have nf:a∉ (env::outer).filterMap (·.frame):=fun hm=>by
  obtain⟨_,o,ho,hn⟩:=hl.mem hm;rw[he] at ho;injection ho with ho;subst ho;exact hn vs hd
 refine z6 (wpAny_frameOf_fun hfr hl hf fun h1 k1=> ?_);refine z6 (wpAny_entryPlaceOf fun pl hp=> ?_);unfold EntryCells.newEntry newFields;refine z6 (wpAny_newObj_type ?_ (hp.sizeOk5 _ _ _ _ _));have e1:h1.get? a=some oe:=(k1.2.1 a nf).trans he;have b1:B.StaysIn h1:=fun b o q=>(k1.2.1 b fun hm=>by rw[(hl.mem hm).1] at q;cases q).trans (hkb b o q)
 refine wpAny_setField (z8 _ e1) hd hz (hQ _ ?_ ?_)
 all_goals
  have ne:h1.objs.size≠a:=Nat.ne_of_gt (zK e1);have d3:=Obj.data_mapFields hd (·.setIfInBounds 1 (Value.ref h1.objs.size));have far:∀b o,b≠a ->h1.get? b=some o ->((h1.push {cls:= .type "traceback",dict:=none,data:= .fields ([head,.ref L,.none,rawInt L,.none]++ (if pl.isEmpty then List.replicate 6 Value.none else pl)).toArray}).update a (Obj.mapFields (·.setIfInBounds 1 (Value.ref h1.objs.size)))).get? b=some o:=
   fun b o hb q=>by rw[Heap.get?_update_other _ _ (Ne.symm hb)];exact z8 _ q
 ·refine⟨fun b o q=>far b o (fun z=>by rw[z,hen] at q;cases q) (b1 b o q),hen,hl.of_keeps fun b o q n=> ?_,?_⟩
  ·obtain⟨sl,k⟩:=k1.2.2 b o q;exact⟨_,far b _ (yw he hd q n) k,rfl⟩
  ·exact⟨_,_,h1.objs.size,_,_,Heap.get?_update_self _ (z8 _ e1) (Obj.isFreed_of_fields d3),⟨Obj.cls_mapFields _ _,zoh _ _,by rw[Array.getElem?_setIfInBounds_ne (by decide)];exact h2⟩,d3,by simp [hz],b1.fresh,ne,
    (Heap.get?_update_other _ _ (Ne.symm ne)).trans (z9 h1 rfl),rfl,by first | (simp;done) | (rcases hp with rfl | ⟨_,_,_,_,_,_,_,rfl⟩<;>simp)⟩
 ·intro b o q n;obtain⟨sl,k⟩:=k1.2.2 b o q;exact⟨sl,far b _ (yw he hd q n) k⟩
theorem RM(hfr:A.frames=some (env::outer))(hf:env.frame=some L)(x:Fo B (env::outer) a cls dx s.heap)
  (hQ:∀h' dd,(dx=none\/dx=dd) ->kY B (env::outer) a cls dd (rawInt L) h' ->s.heap.UpToSlots h' ->Q () {s with heap:=h'}):wpAny M A (noteFrame (.ref a) env) Q E s:=by
 obtain⟨f1,f2,f3,dd,hdd,⟨oe,vs,T,oT,ts,he,⟨rfl,rfl,h2⟩,hd,h1,hB,hne,hT,hdT,h3⟩ | ⟨oe,vs,he,rfl,rfl,hd,h1,h2⟩⟩:=x
 ·unfold noteFrame;simp only [hf];refine z6 (wpAny_field he hd h1 ?_);rw[if_pos (by simp)]
  refine z6 (wpAny_field hT hdT h3 ?_);rw[if_neg (by simp [rawInt])]
  refine z6 (wpAny_setField hT hdT (Array.getElem?_eq_some_iff.mp h3).1 ?_);have far:∀b,b≠T ->(s.heap.update T (Obj.mapFields (·.setIfInBounds 3 Value.none))).get? b=s.heap.get? b:=fun b hb=>Heap.get?_update_other _ _ (Ne.symm hb);refine qF (s:={s with heap:=s.heap.update T (Obj.mapFields (·.setIfInBounds 3 Value.none))}) hfr (f3.of_keeps fun b o q n=>⟨o,(far b (yw hT hdT q n)).trans q,rfl⟩) hf ((far a (Ne.symm hne)).trans he) (fun b o q=>(far b fun z=>by rw[z,hB] at q;cases q).trans (f1 b o q)) f2 hd (Array.getElem?_eq_some_iff.mp h1).1 h2 fun h' w up=> ?_
  exact hQ h' _ hdd w fun b o q n=>up b o ((far b (yw hT hdT q n)).trans q) n
 ·unfold noteFrame;simp only [hf];refine z6 (wpAny_field he hd h1 ?_);rw[if_neg (by decide)]
  exact qF hfr f3 hf he f1 f2 hd (Array.getElem?_eq_some_iff.mp h1).1 h2 fun h' w up=>hQ h' _ hdd w up
theorem znv(hfr:A.frames=some (env::outer))(hf:env.frame=some L)(x:Fo B (env::outer) a cls dx s.heap)
  (hQ:∀h',Fo B outer a cls dx h' ->s.heap.UpToSlots h' ->Q () {s with heap:=h'}):wpAny M A (leaving env (.ref a)) Q E s:=by
 unfold leaving;refine z6 (RM hfr hf x fun h1 dd hdd w up=>qC (s:={s with heap:=h1}) w fun h2 w2 up2=> ?_);obtain⟨k1,k2,⟨_,_,k3⟩,k4⟩:=w2;exact hQ h2 ⟨k1,k2,k3,dd,hdd,.inl k4⟩ (up.trans up2)
end
def cN(P:Program)(w:World):qt:=fun outer H s E e s' =>
 ∃a C H' B dx,e= .ref a/\s'.os=s.os/\AllBare s'.gens/\Un (frs outer) [] H H' s.heap s'.heap/\gY P w H' s'.heap/\Fo B outer a C dx s'.heap/\
  (∀b o,s.heap.get? b=some o ->b∉frs outer ->∃o',B.get? b=some o')/\ (∀b u,H' b=some u ->∃o',B.get? b=some o')/\E C dx H'
theorem cN.imp(h:cN P w outer H s E e s')(k:∀C dx H',E C dx H' ->E' C dx H'):cN P w outer H s E' e s' :=by
 obtain⟨a,C,H',B,dx,h1,h2,h3,h4,h5,h6,h7,h8,h9⟩:=h;exact⟨a,C,H',B,dx,h1,h2,h3,h4,h5,h6,h7,h8,k _ _ _ h9⟩
section
variable{X:Cx}{pins:aV}{σ:St}{H H' :Hp}{s s' :Shared}{B:Heap}{h' :Heap}
theorem RP(hok:gY X.prog X.w H' s'.heap)(b1:B.StaysIn s'.heap)(b2:B.StaysIn h')(nF:∀b u,H' b=some u ->∃o',B.get? b=some o'):gY X.prog X.w H' h' :=fun b u e=>
 (hok b u e).stay (fun c v hc q=>by
  have:∃o',B.get? c=some o' :=by
   rcases hc with rfl | hc
   ·exact nF _ _ e
   ·exact nF _ _ hc
  obtain⟨o',e'⟩:=this;have z:=b1 c o' e';rw[q] at z;cases z;exact b2 c _ e') (fun _ q=>q) fun _ _ q=>q
theorem RQ(I:Inv X pins σ H s)(hex:X.ex= [])(os:s'.os=s.os)(bare:AllBare s'.gens)(un:Un (frs X.stack) [] H H' s.heap s'.heap)(hok:gY X.prog X.w H' s'.heap)(b1:B.StaysIn s'.heap)(b2:B.StaysIn h')
  (inB:∀b o,s.heap.get? b=some o ->b∉frs X.stack ->∃o',B.get? b=some o') (up:s'.heap.UpToSlots h'):
  Un X.fs [] X.H₀ H' X.s₀.heap h' /\∀b o,X.s₀.heap.get? b=some o ->b∉X.fs ->∃o',B.get? b=some o' :=by
 have I' :Inv X pins σ H' s' :=I.call' os un hok bare (fun b z=>absurd z (by simp))
 have hb:=I'.base;rw[hex] at hb;have hb0:=I.base;rw[hex] at hb0;have yx:∀b o,X.s₀.heap.get? b=some o ->b∉X.fs ->∃o',B.get? b=some o' :=fun b o e n=>by
  obtain⟨o1,e1⟩:=hb0.there b o e (by simp)
  refine inB b o1 e1 fun z=> ?_;rcases zV.mp (I.stkSub b z) with z | z
  ·exact absurd (zN (zK e) I.ok.above) (by rw[z];exact zG _)
  ·exact n z
 refine⟨⟨fun b o e n hf hx=> ?_,fun b o e n hf hx=> ?_,fun b o e n hx=>hb.free b o e n hx,fun b o e hx=> ?_,hb.tups,hb.fW,hb.gG⟩,yx⟩
 ·have e1:=hb.keep b o e n hf (by simp)
  obtain⟨o',e'⟩:=yx b o e hf;have z:=b1 b o' e';rw[e1] at z;cases z;exact b2 b _ e'
 ·obtain⟨sl,e1⟩:=hb.slot b o e n hf (by simp)
  obtain⟨_,o2,e2,nf⟩:=I.ok.funs.mem hf;rw[e] at e2;cases e2;obtain⟨sl',e3⟩:=up b _ e1 nf;exact⟨sl',e3⟩
 ·by_cases hf:b∈X.fs
  ·obtain⟨sl,e1⟩:=hb.slot b o e (I.ok.uW b hf) hf (by simp)
   obtain⟨_,o2,e2,nf⟩:=I.ok.funs.mem hf;rw[e] at e2;cases e2;obtain⟨sl',e3⟩:=up b _ e1 nf;exact⟨_,e3⟩
  ·obtain⟨o',e'⟩:=yx b o e hf;exact⟨o',b2 b o' e'⟩
theorem Fp(I:Inv X pins σ H s)(hex:X.ex= [])(hst:X.stack=X.env::X.outer)(hfr:X.env.frame=some X.env.locals)
  (h:cN X.prog X.w X.stack H s E e s'):wpAny (model X.prog X.w) X.A (leaving X.env e) (fun _ s'' =>cN X.prog X.w X.outer X.H₀ X.s₀ E e s'') Eb s' :=by
 obtain⟨a,C,H',B,dx,rfl,os,bare,un,hok,wj,inB,nF,hE⟩:=h;refine znv (by rw[I.ok.frames,hst]) hfr (by rw[<- hst];exact wj) fun h' wu up=> ?_
 obtain⟨un',yx⟩:=RQ I hex os bare un hok wj.1 wu.1 inB up;exact⟨a,C,H',B,dx,rfl,os.trans I.os,bare,un',RP hok wj.1 wu.1 nF,wu,yx,nF,hE⟩
theorem Inv.landed(I:Inv X pins σ H s)(hex:X.ex= [])(os:s'.os=s.os)(bare:AllBare s'.gens)(un:Un (frs X.stack) [] H H' s.heap s'.heap)(hok:gY X.prog X.w H' s'.heap)(b1:B.StaysIn s'.heap)(b2:B.StaysIn h')
  (inB:∀b o,s.heap.get? b=some o ->b∉frs X.stack ->∃o',B.get? b=some o') (nF:∀b u,H' b=some u ->∃o',B.get? b=some o') (up:s'.heap.UpToSlots h'):Inv X pins σ H' {s' with heap:=h',toks:=t'}:=by
 have I' :Inv X pins σ H' s' :=I.call' os un hok bare (fun b z=>absurd z (by simp))
 obtain⟨un',yx⟩:=RQ I hex os bare un hok b1 b2 inB up;have cl:∀{c v},s'.heap.IsCell c v ->h'.IsCell c v:=fun{c v} ⟨o,ho,hd⟩=>by
  obtain⟨sl,e⟩:=up c o ho (fun vs z=>by rw[hd] at z;cases z)
  exact⟨_,e,hd⟩
 refine⟨I.ok,I'.os,bare,by rw[hex];exact un',?_,fun x c e=> ?_,I'.free,I'.freeC,fun p hp=> ?_,RP hok b1 b2 nF,I.len⟩
 ·obtain⟨m,hn,hl⟩:=I'.loc;refine⟨m,up.ns hn,fun i x v e1 e2 e3=> ?_⟩;obtain⟨u,r,l⟩:=hl i x v e1 e2 e3;refine⟨u,r,?_⟩;rcases l with l | ⟨k,c,e,z⟩
  ·exact .inl l
  ·exact .inr ⟨k,c,e,cl z⟩
 ·obtain⟨v,z⟩:=I'.cell x c e;exact⟨v,cl z⟩
 ·obtain⟨e,n,ne,nf,d⟩:=I.pin p hp;obtain⟨e',n',_,_,_⟩:=I'.pin p hp;refine⟨?_,n',ne,nf,d⟩;obtain⟨o',q⟩:=inB p.1 p.2 e fun z=>by
   rcases zV.mp (I.stkSub p.1 z) with z | z
   ·exact ne z
   ·exact nf z
  have z:=b1 p.1 o' q;rw[e'] at z;cases z;exact b2 p.1 _ q
end
def wz(K:W.Frag)(C:Addr):Prop:=W.excIn K C [.type "ValueError",.type "Exception",.type "BaseException",.type "object"] "ValueError.__new__" =true
abbrev um:List Value:= [.type "ValueError",.type "Exception",.type "BaseException",.type "object"]
def iR(K:W.Frag)(C:Addr):Bool:=match K.lookup C with
 | some ⟨.type "type",_,.cls cd,sl⟩=>(match cd.mro,sl.toList with
  | .ref C' ::bm,[_,_,_,_,some (.builtin n),_]=>C' ==C&&n== "ValueError.__new__" && !cd.hasDel&&W.tailIn K um bm
  | _,_=>false)
 | _=>false
theorem u9{K:W.Frag}{h:Heap}{C:Addr}(X:K.In h)(q:iR K C=true):
  ∃bm N nm qn bs hdct sn sub ab col dd k0 k1 k2 k3 k5,h.get? C=some (excClassObj nm qn C N bs bm hdct sn sub ab col dd k0 k1 k2 k3 k5 "ValueError.__new__")/\OwnTail h um bm/\W.tailIn K um bm=true/\
   ∃cd,W.clsIn K C=some cd/\cd.mro= .ref C::bm:=by
 unfold iR at q;split at q
 ·rename_i dd cd sl ho;split at q
  ·rename_i C' bm k0 k1 k2 k3 n k5 hm hs;simp only [Bool.and_eq_true,beq_iff_eq,Bool.not_eq_true'] at q;obtain⟨⟨⟨rfl,rfl⟩,hdel⟩,ht⟩:=q;have hcl:W.clsIn K C' =some cd:=by unfold W.clsIn;rw[ho]
   have hm0:=hm;obtain⟨nm,bs,mro,ns,qn,hd,sn,sub,ab,col,del⟩:=cd;dsimp only at hm hdel;subst hm hdel;obtain rfl:sl= #[k0,k1,k2,k3,some (.builtin "ValueError.__new__"),k5]:=by
    cases sl;simp only at hs;rw[hs]
   exact⟨bm,ns,nm,qn,bs,hd,sn,sub,ab,col,dd,k0,k1,k2,k3,k5,X _ _ ho,W.tail_of_in X ht,ht,_,hcl,hm0⟩
  ·cases q
 ·cases q
def jA(K:W.Frag)(C:Addr):Prop:=iR K C=true
section
variable{X:Cx}{pins:aV}{σ:St}{H:Hp}{s:Shared}
end
abbrev G2:=List Slot
inductive XV where
 | ref (C:Addr) | pay (C:Addr) (fs:List Str) (ts:List T)
def XV.cls:XV ->Addr
 | .ref C=>C
 | .pay C _ _=>C
def qG(K:W.Frag)(F H H' :Hp)(C:Value)(dx:Option Addr)(x:XV):Prop:=C= .ref x.cls/\match x with
 | .ref _=>True
 | .pay _ fs ts=>∃p vs as,dx=some p/\H' p=some (.xd (fs.zip vs))/\fs.length=vs.length/\F p=none/\H p=none/\as.Nodup/\ (∀b∈as,F b=none/\H b=none)/\bB K F H' ts vs as
theorem Gr.low(s:Same H H1)(g:Gr F H1 F' H'):Gr F H F' H' :=⟨g.f,g.g,s.trans g.h,fun b o e n=>lD.back s (g.n b o e n)⟩
def XV.bare:XV ->XV
 | .ref C=> .ref C
 | .pay C _ _=> .ref C
def n8(K:W.Frag)(F H:Hp)(Ex:XV ->Prop)(E:XK):Prop:=∀x C dx F' H',Ex x ->Gr F H F' H' ->qG K F' H H' C dx x ->E C dx H'
theorem qG.back{K:W.Frag}(s:Same H1 H)(h:qG K F H H' C dx x):qG K F H1 H' C dx x:=by
 refine⟨h.1,?_⟩;have h:=h.2;cases x with
 | ref _=>trivial
 | pay c fs ds=>
  obtain⟨p,vs,as,e1,e2,e3,e4,e5,nd,e6,e7⟩:=h;exact⟨p,vs,as,e1,e2,e3,e4,s.free e5,nd,fun b hb=>⟨(e6 b hb).1,s.free (e6 b hb).2⟩,e7⟩
abbrev XW:=G2 ->XV ->Prop
abbrev aB:=G2 ->(D ->G2 ->Prop) ->XW ->Prop
abbrev aO:=G2 ->(List D ->G2 ->Prop) ->XW ->Prop
abbrev TT2:=G2 ->(Bool ->G2 ->Prop) ->XW ->Prop
inductive TW where
 | one (t:T) | tp (c:Str) (t:T)
def TRR(K:W.Frag)(F H:Hp):TW ->V ->List Addr ->Prop
 | .one t,v,as=>TR K F H t v as
 | .tp c t,v,as=>∃p u,v= .ref p/\F p=some (.tup [.str c,u])/\TR K F H t u as
def wA(Q:T ->Prop):TW ->Prop
 | .one t=>Q t
 | .tp _ _=>False
structure iT where
 nx:G2 ->Prop
 rt:D ->Prop
 bk:G2 ->Prop:=fun _=>False
 ct:G2 ->Prop:=fun _=>False
 rf:D ->Prop:=fun _=>False
 rT:TW ->Prop:=fun _=>False
 rm:D ->G2 ->Prop:=fun _ _=>False
abbrev aq:=iT ->G2 ->XW ->Prop
open Classical in
noncomputable def cW (F0 F:Hp):Hp:=fun b=>if∃w,LD w/\F0 b=some w then none else F b
theorem RT:Same (cW F0 F) F:=fun b u e=>by
 unfold cW at e;split at e
 ·cases e
 ·exact e
theorem J1(h:∀u,LD u ->F0 b≠some u):cW F0 F b=F b:=by
 unfold cW;rw[if_neg fun⟨w,hw,q⟩=>h w hw q]
theorem RV(e:cW F0 F b=some u):∀w,LD w ->F0 b≠some w:=fun w hw q=>by
 unfold cW at e;rw[if_pos ⟨w,hw,q⟩] at e;cases e
theorem RW(s:Same F0 F1):Same (cW F1 F) (cW F0 F):=fun b u e=>by
 rw[J1 fun w hw q=>RV e w hw (s _ _ q)];exact RT _ _ e
theorem zoe(s:Same F0 F):∀b u,F b=some u ->LD u\/cW F0 F b=some u:=fun b u e=>by
 by_cases h:∃w,LD w/\F0 b=some w
 ·obtain⟨w,hw,q⟩:=h;have:=s _ _ q;rw[e] at this;cases this;exact .inl hw
 ·exact .inr (by rw[J1 fun w hw q=>h ⟨w,hw,q⟩];exact e)
section
variable(K:W.Frag)(F0 H0:Hp)
def qH(t:aB)(E:XW):TE:=fun σ H Q=>∃F Γ P,SR K F0 H0 F H σ Γ/\t Γ P E/\∀d Γ' F' H' v,SR K F0 H0 F' H' σ Γ' ->Same F F' ->Rep K F' d v ->P d Γ' ->Q v H'
def Ax(t:TT2)(E:XW):TT:=fun σ H Q=>∃F Γ P,SR K F0 H0 F H σ Γ/\t Γ P E/\∀b Γ' F' H',SR K F0 H0 F' H' σ Γ' ->Same F F' ->P b Γ' ->Q b H'
def Ay(t:aO)(E:XW):TA:=fun σ H Q=>∃F Γ P,SR K F0 H0 F H σ Γ/\t Γ P E/\∀ds Γ' F' H' vs,SR K F0 H0 F' H' σ Γ' ->Same F F' ->ak K F' ds vs ->P ds Γ' ->Q vs H'
def J2(t:aO)(E:XW):TE:=fun σ H Q=>∃F Γ P,SR K F0 H0 F H σ Γ/\t Γ P E/\∀ds Γ' F' H' a vs,SR K F0 H0 F' H' σ Γ' ->Same F F' ->H' a=some (.lst vs) ->F' a=none ->H0 a=none ->ak K F' ds vs ->Apart σ Γ' a ->P ds Γ' ->Q (.ref a) H'
structure j8 (F:Hp) (D2:iT) (D:Ends):Prop where
 nx:∀Γ F' H σ,SR K F0 H0 F' H σ Γ ->Same F F' ->D2.nx Γ ->D.nx σ H
 bk:∀Γ F' H σ,SR K F0 H0 F' H σ Γ ->Same F F' ->D2.bk Γ ->D.bk σ H
 ct:∀Γ F' H σ,SR K F0 H0 F' H σ Γ ->Same F F' ->D2.ct Γ ->D.ct σ H
 rt:∀d v F' H,Gr F0 H0 F' H ->Rep K F' d v ->D2.rt d ->D.rt v H
 rf:∀d v F' H,Gr F0 H0 F' H ->Rep K (cW F0 F') d v ->D2.rf d ->D.rt v H
 rT:∀t v as F' H,Gr F0 H0 F' H ->as.Nodup ->(∀a∈as,F' a=none/\H0 a=none) ->TRR K F' H t v as ->D2.rT t ->D.rt v H
 rm:∀d v Γ F' H σ,SR K F0 H0 F' H σ Γ ->Rep K F' d v ->D2.rm d Γ ->D.rt v H
def yC(t:aq)(E:XW):TS:=fun D σ H=>∃F Γ D2,SR K F0 H0 F H σ Γ/\t D2 Γ E/\j8 K F0 H0 F D2 D
end
theorem j8.mono{K:W.Frag}{F0 H0 F F' :Hp}{D2:iT}{D:Ends}(k:j8 K F0 H0 F D2 D)(s:Same F F'):j8 K F0 H0 F' D2 D:=
 ⟨fun Γ F1 H σ R s1 h=>k.nx Γ F1 H σ R (s.trans s1) h,fun Γ F1 H σ R s1 h=>k.bk Γ F1 H σ R (s.trans s1) h,fun Γ F1 H σ R s1 h=>k.ct Γ F1 H σ R (s.trans s1) h,k.rt,k.rf,k.rT,k.rm⟩
structure Az where
 xe:bf
 pn:aV
abbrev _root_.L2.Cx.wsh(X:Cx)(z:Az):Cx:={X with xe:=z.xe,pn:=z.pn}
structure Ctx (X:Cx) (F0 H0:Hp) (E:XW):Prop where
 pX:∀pins σ Γ F H s e s',Inv X pins σ H s ->SR X.K F0 H0 F H σ Γ ->cN X.prog X.w X.stack H s (fun C dx H' =>∃Γ' F' x,SR X.K F0 H0 F' H' σ Γ' /\Same F F' /\qG X.K F' H H' C dx x/\ (x.bare=x\/∀b,H b=none ->Apart σ Γ' b)/\E Γ' x) e s' ->X.xe e s'
 po:PassesOwn (model X.prog X.w) X.A X.env X.xe
theorem Ctx.px(cx:Ctx X F0 H0 E)(pins:aV)(σ:St)(Γ:G2)(F H:Hp)(s:Shared)(e:Value)(s' :Shared)(I:Inv X pins σ H s)(R:SR X.K F0 H0 F H σ Γ)(hx:cN X.prog X.w X.stack H s (fun C dx H' =>∃x F',E Γ x/\Gr F H F' H' /\qG X.K F' H H' C dx x) e s'):X.xe e s' :=
 cx.pX pins σ Γ F H s e s' I R (hx.imp fun _ _ H' ⟨x,F',h1,h2,h3⟩=>⟨Γ,F',x,R.grow h2,h2.f,h3,.inr fun b hb=>R.apart hb,h1⟩)
def QE(X:Cx)(F0 H0:Hp)(e:Expr)(t:aB):Prop:=∀z E,Ctx (X.wsh z) F0 H0 E ->PE (X.wsh z) e (qH X.K F0 H0 t E)
def QF(X:Cx)(F0 H0:Hp)(e:Expr)(t:aO):Prop:=∀z E,Ctx (X.wsh z) F0 H0 E ->PE (X.wsh z) e (J2 X.K F0 H0 t E)
def QT(X:Cx)(F0 H0:Hp)(e:Expr)(t:TT2):Prop:=∀z E,Ctx (X.wsh z) F0 H0 E ->PT (X.wsh z) e (Ax X.K F0 H0 t E)
def QW(X:Cx)(F0 H0:Hp)(e:Expr)(t:TT2):Prop:=∀z E,Ctx (X.wsh z) F0 H0 E ->PW (X.wsh z) e (Ax X.K F0 H0 t E)
def QA(X:Cx)(F0 H0:Hp)(es:List Expr)(t:aO):Prop:=∀z E,Ctx (X.wsh z) F0 H0 E ->PA (X.wsh z) es (Ay X.K F0 H0 t E)
def QS(X:Cx)(F0 H0:Hp)(st:Stmt)(t:aq):Prop:=∀z E,Ctx (X.wsh z) F0 H0 E ->PS (X.wsh z) st (yC X.K F0 H0 t E)
def lY(X:Cx)(F0 H0:Hp)(st:List Stmt)(t:aq):Prop:=∀z E,Ctx (X.wsh z) F0 H0 E ->pG (X.wsh z) st (yC X.K F0 H0 t E)
section
variable{X:Cx}{e:Expr}{es:List Expr}{st:Stmt}{sts:List Stmt}
theorem jB(h:PE X e t)(hi:∀σ H Q,t' σ H Q ->t σ H Q):PE X e t' :=fun pins s σ H Q I q=>h pins s σ H Q I (hi _ _ _ q)
theorem Fq(h:PT X e t)(hi:∀σ H Q,t' σ H Q ->t σ H Q):PT X e t' :=fun pins s σ H Q I q=>h pins s σ H Q I (hi _ _ _ q)
theorem RX(h:PW X e t)(hi:∀σ H Q,t' σ H Q ->t σ H Q):PW X e t' :=fun w pins s σ H Q I q=>h w pins s σ H Q I (hi _ _ _ q)
theorem RZ(h:PA X es t)(hi:∀σ H Q,t' σ H Q ->t σ H Q):PA X es t' :=fun p pins s σ H Q I q=>h p pins s σ H Q I (hi _ _ _ q)
theorem j9(h:PS X st t)(hi:∀D σ H,t' D σ H ->t D σ H):PS X st t' :=fun pins s σ H D I q=>h pins s σ H D I (hi _ _ _ q)
theorem Ba(h:pG X sts t)(hi:∀D σ H,t' D σ H ->t D σ H):pG X sts t' :=fun pins s σ H D I q=>h pins s σ H D I (hi _ _ _ q)
end
section
variable{X:Cx}{F0 H0:Hp}{a b c e:Expr}{es:List Expr}{pos:Pos}{ta tb tc te:aB}
def cC(d:D):aB:=fun Γ P _=>P d Γ
theorem Ft(h:∀z,PE (X.wsh z) e (tC v))(r:∀F,Rep X.K F d v):QE X F0 H0 e (cC d):=fun z E cx=>
 jB (h z) fun σ H Q hq1=>by obtain⟨F,Γ,P,R,h,k⟩:=hq1;exact k _ _ _ _ _ R (.refl _) (r F) h
theorem aC{i j pos}:QE X F0 H0 (.Constant (.int i) j pos) (cC (.int i)):=Ft (fun _=>Ib) fun _=>by unfold Rep;rfl
theorem yD{i j pos}:QE X F0 H0 (.Constant (.bool i) j pos) (cC (.bl i)):=Ft (fun _=>Yt) fun _=>by unfold Rep;rfl
theorem zwl{j pos}:QE X F0 H0 (.Constant .none j pos) (cC .non):=Ft (fun _=>Yu) fun _=>by unfold Rep;rfl
theorem Bb{x j pos}:QE X F0 H0 (.Constant (.str x) j pos) (cC (.str x)):=Ft (fun _=>Qo) fun _=>by unfold Rep;rfl
def cV(i:Nat):aB:=fun Γ P _=>match Γ[i]? with
 | some (.pu d)=>P d Γ
 | some (.ow ds)=>P (.lst ds) (Γ.set i (.pu (.lst ds)))
 | _=>False
theorem zxh(hN:X.N[i]?=some x)(hv:nP X.env.scope x)(hd:(x==("__debug__" :Str))=false:=by decide)(hcd:(x==("__classdict__" :Str))=false:=by decide):QE X F0 H0 (.Name x pos) (cV i):=fun z E cx=>
 jB (tG (X:=X.wsh z) (i:=i) hN hv hd hcd) fun σ H Q hq2=>by
  obtain⟨F,Γ,P,R,h,k⟩:=hq2;unfold cV at h;split at h
  ·rename_i d e;obtain⟨o,e1,v,rfl,r⟩:=R.sl i _ e;exact⟨v,e1,k d Γ F H v R (.refl _) r h⟩
  ·rename_i ds e;obtain⟨a,F',e1,s1,R',r⟩:=R.frz e;exact⟨.ref a,e1,k _ _ F' H _ R' s1 r h⟩
  ·exact h.elim
def jf(K:W.Frag)(g:D ->D ->(D ->Prop) ->Prop):R2:=fun x y H Q=>∃F d1 d2 P,Same F H/\Rep K F d1 x/\Rep K F d2 y/\g d1 d2 P/\∀d z F' H',Gr F H F' H' ->Rep K F' d z ->P d ->Q z H'
def cB(g:D ->D ->(D ->Prop) ->Prop)(ta tb:aB):aB:=fun Γ P E=>ta Γ (fun d1 Γ1=>tb Γ1 (fun d2 Γ2=>g d1 d2 fun d=>P d Γ2) E) E
theorem Fw{K:W.Frag}{g:D ->D ->(D ->Prop) ->Prop}{E:XW}{σ:St}{H:Hp}{Q:VK}(h:qH K F0 H0 (cB g ta tb) E σ H Q):Aa (jf K g) (qH K F0 H0 ta E) (qH K F0 H0 tb E) σ H Q:=by
 obtain⟨F,Γ,P,R,h,k⟩:=h;refine⟨F,Γ,_,R,h,fun d1 Γ1 F1 H1 v1 R1 s1 r1 h1=>⟨F1,Γ1,_,R1,h1,fun d2 Γ2 F2 H2 v2 R2 s2 r2 h2=>⟨F2,d1,d2,_,R2.g,r1.up s2,r2,h2,fun d z F' H' gr rz hp=> ?_⟩⟩⟩;exact k d Γ2 F' H' z (R2.grow gr) (s1.trans (s2.trans gr.f)) rz hp
theorem aZ(ho:∀z,dJ (X.wsh z) (binaryOp op) (jf X.K g))(ha:QE X F0 H0 a ta)(hb:QE X F0 H0 b tb):QE X F0 H0 (.BinOp a op b pos) (cB g ta tb):=fun z E cx=>
 jB (QK (ho z) (ha z E cx) (hb z E cx)) fun _ _ _ h=>Fw h
theorem yE(ho:∀z,dJ (X.wsh z) (compareOp op) (jf X.K g))(ha:QE X F0 H0 a ta)(hb:QE X F0 H0 b tb)(hm:behindInMarks op b=false):QE X F0 H0 (.Compare a [op] [b] pos) (cB g ta tb):=fun z E cx=>
 jB (Zx (ho z) (ha z E cx) (hb z E cx) hm) fun _ _ _ h=>Fw h
def cT(t:aB):TT2:=fun Γ P E=>t Γ (fun d Γ' =>match d with | .bl c=>P c Γ' | _=>False) E
theorem J3{K:W.Frag}{E:XW}{σ:St}{H:Hp}{Q:Bool ->Hp ->Prop}(h:Ax K F0 H0 (cT te) E σ H Q):qH K F0 H0 te E σ H fun x H' =>∃c,x= .bl c/\Q c H' :=by
 obtain⟨F,Γ,P,R,h,k⟩:=h;refine⟨F,Γ,_,R,h,fun d Γ' F' H' v R' s' r q=> ?_⟩;cases d with
 | bl c=>
  unfold Rep at r;exact⟨c,r,k c Γ' F' H' R' s' q⟩
 | _=>exact False.elim q
theorem jY(ho:∀z,dJ (X.wsh z) (compareOp op) (jf X.K g))(ha:QE X F0 H0 a ta)(hb:QE X F0 H0 b tb)(hm:behindInMarks op b=false):QT X F0 H0 (.Compare a [op] [b] pos) (cT (cB g ta tb)):=fun z E cx=>
 Fq (Zy (ho z) (ha z E cx) (hb z E cx) hm) fun σ H Q h=>Fw (J3 h)
theorem vd(h:QE X F0 H0 e te)(he:∀whole,isTrue e X.env whole=(do let v<- whole;standAt e.pos;holding [v] (truthy v)):=by intro _;rfl):QT X F0 H0 e (cT te):=fun z E cx=>
 Fq (YD (X:=X.wsh z) (h z E cx) he) fun _ _ _ h=>J3 h
def qI(t u:TT2):TT2:=fun Γ P E=>t Γ (fun c Γ' =>if c=true then u Γ' P E else P false Γ') E
def yF(t u:TT2):TT2:=fun Γ P E=>t Γ (fun c Γ' =>if c=true then P true Γ' else u Γ' P E) E
def oh(t:TT2):TT2:=fun Γ P E=>t Γ (fun c Γ' =>P (!c) Γ') E
variable{rest:List Expr}{tA tY :TT2}
theorem J4(ha:QT X F0 H0 a tA):QW X F0 H0 (.BoolOp .And [a] pos) tA:=fun z E cx=>YG (ha z E cx)
theorem J5(ha:QT X F0 H0 a tA):QW X F0 H0 (.BoolOp .Or [a] pos) tA:=fun z E cx=>YH (ha z E cx)
theorem J6(ha:QT X F0 H0 a tA)(hb:QW X F0 H0 (.BoolOp .And (b::rest) pos) tY):QW X F0 H0 (.BoolOp .And (a::b::rest) pos) (qI tA tY):=fun z E cx=>
 RX (YJ (ha z E cx) (hb z E cx)) fun σ H Q pN=>by obtain⟨F,Γ,P,R,h,k⟩:=pN;exact⟨F,Γ,_,R,h,fun c Γ1 F1 H1 R1 s1 q=>by
  cases c with
  | true=>
   simp only [if_true] at q⊢;exact⟨F1,Γ1,P,R1,q,fun b Γ2 F2 H2 R2 s2 p=>k b Γ2 F2 H2 R2 (s1.trans s2) p⟩
  | false=>
   simp only [Bool.false_eq_true,if_false] at q⊢;exact k _ _ _ _ R1 s1 q⟩
theorem Fy(ha:QT X F0 H0 a tA)(hb:QW X F0 H0 (.BoolOp .Or (b::rest) pos) tY):QW X F0 H0 (.BoolOp .Or (a::b::rest) pos) (yF tA tY):=fun z E cx=>
 RX (YK (ha z E cx) (hb z E cx)) fun σ H Q ou=>by obtain⟨F,Γ,P,R,h,k⟩:=ou;exact⟨F,Γ,_,R,h,fun c Γ1 F1 H1 R1 s1 q=>by
  cases c with
  | true=>
   simp only [if_true] at q⊢;exact k _ _ _ _ R1 s1 q
  | false=>
   simp only [Bool.false_eq_true,if_false] at q⊢;exact⟨F1,Γ1,P,R1,q,fun b Γ2 F2 H2 R2 s2 p=>k b Γ2 F2 H2 R2 (s1.trans s2) p⟩⟩
theorem pO(h:QW X F0 H0 e tA):QT X F0 H0 e tA:=fun z E cx=>(h z E cx).pt
theorem Bc(ha:QT X F0 H0 a tA):QT X F0 H0 (.UnaryOp .Not a pos) (oh tA):=fun z E cx=>
 Fq (YL (ha z E cx)) fun σ H Q uo=>by obtain⟨F,Γ,P,R,h,k⟩:=uo;exact⟨F,Γ,_,R,h,fun c Γ1 F1 H1 R1 s1 q=>k _ _ _ _ R1 s1 q⟩
def pA(ta tb:aB):aB:=fun Γ P E=>ta Γ (fun d Γ' =>match d with | .bl true=>tb Γ' P E | .bl false=>P (.bl false) Γ' | _=>False) E
def J7(ta tb:aB):aB:=fun Γ P E=>ta Γ (fun d Γ' =>match d with | .bl false=>tb Γ' P E | .bl true=>P (.bl true) Γ' | _=>False) E
def Bf(ta:aB):aB:=fun Γ P E=>ta Γ (fun d Γ' =>match d with | .bl c=>P (.bl (!c)) Γ' | _=>False) E
theorem zw0{op}(h:QE X F0 H0 a ta):QE X F0 H0 (.BoolOp op [a] pos) ta:=fun z E cx=>YQ (h z E cx)
theorem R8(ha:QE X F0 H0 a ta)(hb:QE X F0 H0 (.BoolOp .And (b::rest) pos) tb):QE X F0 H0 (.BoolOp .And (a::b::rest) pos) (pA ta tb):=fun z E cx=>
 jB (YS (ha z E cx) (hb z E cx)) fun σ H Q Bg=>by obtain⟨F,Γ,P,R,h,k⟩:=Bg;exact⟨F,Γ,_,R,h,fun d Γ1 F1 H1 v R1 s1 r q=>by
  cases d with
  | bl c=>
   unfold Rep at r;refine⟨c,r,?_⟩;cases c with
   | true=>rw[if_pos rfl];exact⟨F1,Γ1,P,R1,q,fun d Γ2 F2 H2 v R2 s2 r p=>k d Γ2 F2 H2 v R2 (s1.trans s2) r p⟩
   | false=>rw[if_neg Bool.false_ne_true];exact k _ _ _ _ _ R1 s1 (by unfold Rep;rfl) q
  | _=>exact False.elim q⟩
def cIf(t:TT2)(ta tb:aB):aB:=fun Γ P E=>t Γ (fun c Γ' =>if c=true then ta Γ' P E else tb Γ' P E) E
def ao:aO:=fun Γ P _=>P [] Γ
def aj(t:aB)(u:aO):aO:=fun Γ P E=>t Γ (fun d Γ1=>u Γ1 (fun ds Γ2=>P (d::ds) Γ2) E) E
theorem aM:QA X F0 H0 [] ao:=fun z E cx=>RZ yq fun σ H Q wB=>by obtain⟨F,Γ,P,R,h,k⟩:=wB;exact k _ _ _ _ _ R (.refl _) (by unfold ak;rfl) h
theorem au(ha:QE X F0 H0 e te)(hr:QA X F0 H0 es tr)(hs:starEach (e::es) X.env=(false,eval e X.env)::starEach es X.env:=by rfl):QA X F0 H0 (e::es) (aj te tr):=fun z E cx=>
 RZ (uf (X:=X.wsh z) (ha z E cx) (hr z E cx) hs) fun σ H Q ⟨F,Γ,P,R,h,k⟩=>
  ⟨F,Γ,_,R,h,fun d Γ1 F1 H1 v1 R1 s1 r1 h1=>⟨F1,Γ1,_,R1,h1,fun ds Γ2 F2 H2 vs R2 s2 r2 h2=>k _ _ _ _ _ R2 (s1.trans s2) (pq (r1.up s2) r2) h2⟩⟩
def gM(t:aO):aB:=fun Γ P E=>t Γ (fun ds Γ1=>ds.length<=sizeLine/\P (.tup ds) Γ1) E
theorem pP{x1}(h:QA X F0 H0 es t):QE X F0 H0 (.Tuple es x1 pos) (gM t):=fun z E cx=>
 jB (zs2 (h z E cx)) fun σ H Q vQ=>by obtain⟨F,Γ,P,R,h,k⟩:=vQ;exact⟨F,Γ,_,R,h,fun ds Γ1 F1 H1 vs R1 s1 r1 h1=>⟨by rw[<- fY r1];exact h1.1,fun p hp=>by
  have gr:=Gr.laid (o:=HO.tup vs) R1.g hp;refine k _ _ _ _ _ (R1.grow gr) (s1.trans gr.f) ?_ h1.2;unfold Rep;exact⟨p,vs,rfl,.inl (.inl iu),r1.up gr.f⟩⟩⟩
def eF(t:aO):aO:=fun Γ P E=>t Γ (fun ds Γ1=>ds.length<=sizeLine/\P ds Γ1) E
theorem uq{K:W.Frag}{F H:Hp}{σ:St}{Γ:G2}{p:Addr}{vs:List V}{ds:List D}(R:SR K F0 H0 F H σ Γ)(hp:H p=none)(r:ak K F ds vs):
  SR K F0 H0 F (L2.upd H p (.lst vs)) σ Γ/\ (L2.upd H p (.lst vs)) p=some (.lst vs)/\F p=none/\H0 p=none/\Apart σ Γ p:=by
 refine⟨?_,iu,R.g.free hp,R.gr.h.free hp,R.apart hp⟩;refine R.grow ⟨.refl _,fun b u e=> ?_,fun b u e=> ?_,fun b o e n=>by rw[e] at n;cases n⟩
 ·rw[bC (eO (R.g b u e) hp)];exact R.g b u e
 ·rw[bC (eO e hp)];exact e
theorem lZ{t:aO}(h:QA X F0 H0 es t):QF X F0 H0 (.List es pos) (eF t):=fun z E cx=>
 jB (Z2 (h z E cx)) fun σ H Q qy=>by obtain⟨F,Γ,P,R,h,k⟩:=qy;exact⟨F,Γ,_,R,h,fun ds Γ1 F1 H1 vs R1 s1 r1 h1=>⟨by rw[<- fY r1];exact h1.1,fun p hp=>by
  obtain⟨R2,e1,e2,e3,ap⟩:=uq R1 hp r1;exact k ds Γ1 F1 _ p vs R2 s1 e1 e2 e3 r1 ap h1.2⟩⟩
def iy(t:aO):aB:=fun Γ P E=>t Γ (fun ds Γ1=>P (.lst ds) Γ1) E
theorem jo(h:QF X F0 H0 e t):QE X F0 H0 e (iy t):=fun z E cx=>
 jB (h z E cx) fun σ H Q vU=>by obtain⟨F,Γ,P,R,h,k⟩:=vU;exact⟨F,Γ,_,R,h,fun ds Γ1 F1 H1 a vs R1 s1 e1 e2 e3 r1 ap h1=>by
  obtain⟨s2,_⟩:=Fl R1.g e1 e2;refine k _ _ _ _ _ (R1.frzA e1 e2 e3 ap) (s1.trans s2) ?_ h1;unfold Rep;exact⟨a,vs,rfl,.inl (.inl iu),r1.up s2⟩⟩
variable{st:Stmt}{sts:List Stmt}{t u:aq}
def bU:aq:=fun D Γ _=>D.nx Γ
def aG(t u:aq):aq:=fun D Γ E=>t {D with nx:=fun Γ' =>u D Γ' E} Γ E
theorem mj:lY X F0 H0 [] bU:=fun z E cx=>Ba YT fun D σ H J8=>by obtain⟨F,Γ,D2,R,h,k⟩:=J8;exact k.nx _ _ _ _ R (.refl _) h
theorem bL(h1:QS X F0 H0 st t)(h2:lY X F0 H0 sts u):lY X F0 H0 (st::sts) (aG t u):=fun z E cx=>
 Ba (Qs (h1 z E cx) (h2 z E cx)) fun D σ H J9=>by obtain⟨F,Γ,D2,R,h,k⟩:=J9;exact⟨F,Γ,_,R,h,⟨fun Γ' F' H' σ' R' s' q=>⟨F',Γ',D2,R',q,k.mono s'⟩,k.bk,k.ct,k.rt,k.rf,k.rT,k.rm⟩⟩
theorem cA(h1:QS X F0 H0 st t):lY X F0 H0 [st] t:=fun z E cx=>Qt (h1 z E cx)
def aal:aq:=fun D Γ _=>D.bk Γ
def aam:aq:=fun D Γ _=>D.ct Γ
def Bh(te:aB):aq:=fun D Γ E=>te Γ (fun _ Γ1=>D.nx Γ1) E
def bM(te:aB):aq:=fun D Γ E=>te Γ (fun d _=>D.rt d) E
theorem gZ(he:QE X F0 H0 e te):QS X F0 H0 (.Return (some e) pos) (bM te):=fun z E cx=>
 j9 (Ip (he z E cx)) fun D σ H Ka=>by obtain⟨F,Γ,D2,R,h,k⟩:=Ka;exact⟨F,Γ,_,R,h,fun d Γ1 F1 H1 v R1 s1 r1 h1=>k.rt _ _ _ _ R1.gr r1 h1⟩
def Bj:aq:=fun D _ _=>D.rt .non
def eG(c:TT2)(t u:aq):aq:=fun D Γ E=>c Γ (fun b Γ1=>if b=true then t D Γ1 E else u D Γ1 E) E
theorem mq(hc:QT X F0 H0 c tA)(ha:lY X F0 H0 x t)(hb:lY X F0 H0 y u):QS X F0 H0 (.If c x y pos) (eG tA t u):=fun z E cx=>
 j9 (YW (hc z E cx) (ha z E cx) (hb z E cx)) fun D σ H Kc=>by obtain⟨F,Γ,D2,R,h,k⟩:=Kc;exact⟨F,Γ,_,R,h,fun c Γ1 F1 H1 R1 s1 q=>by
  cases c with
  | true=>rw[if_pos rfl] at q⊢;exact⟨F1,Γ1,D2,R1,q,k.mono s1⟩
  | false=>rw[if_neg Bool.false_ne_true] at q⊢;exact⟨F1,Γ1,D2,R1,q,k.mono s1⟩⟩
def Kd:aq:=fun _ _ _=>False
def bD(i:Nat)(te:aB):aq:=fun D Γ E=>te Γ (fun d Γ1=>D.nx (Γ1.set i (.pu d))) E
theorem ig(hN:X.N.Nodup)(hi:X.N[i]?=some x)(hx:Loc X.env.scope x)(he:QE X F0 H0 e te)(hs:swapsWith e (some (.Name x pos')) pos.line X.env=pure false:=by rfl)
  (hf:X.fn x=true\/X.env.scope.names.lookup x=some .local:=by first | exact .inl rfl | exact .inr rfl):QS X F0 H0 (.Assign [.Name x pos'] e pos) (bD i te):=fun z E cx=>
 j9 (yj (X:=X.wsh z) (i:=i) hN hi hx (he z E cx) hs hf) fun D σ H Ke=>by obtain⟨F,Γ,D2,R,h,k⟩:=Ke;exact⟨F,Γ,_,R,h,fun d Γ1 F1 H1 v R1 s1 r1 h1=>k.nx _ _ _ _ (R1.set i r1) s1 h1⟩
def eV(i:Nat)(t:aO):aq:=fun D Γ E=>t Γ (fun ds Γ1=>D.nx (Γ1.set i (.ow ds))) E
theorem vf(hN:X.N.Nodup)(hi:X.N[i]?=some x)(hx:Loc X.env.scope x)(he:QF X F0 H0 e tf)(hs:swapsWith e (some (.Name x pos')) pos.line X.env=pure false:=by rfl)
  (hf:X.fn x=true\/X.env.scope.names.lookup x=some .local:=by first | exact .inl rfl | exact .inr rfl):QS X F0 H0 (.Assign [.Name x pos'] e pos) (eV i tf):=fun z E cx=>
 j9 (yj (X:=X.wsh z) (i:=i) hN hi hx (he z E cx) hs hf) fun D σ H Kf=>by obtain⟨F,Γ,D2,R,h,k⟩:=Kf;exact⟨F,Γ,_,R,h,fun ds Γ1 F1 H1 a vs R1 s1 e1 e2 e3 r1 ap h1=>k.nx _ _ _ _ (R1.setOw i e1 e2 e3 r1 ap) s1 h1⟩
end
end L3
namespace L3
open PySem PySem.Spec PyProof.Rows L2
abbrev iQ:=D ->G2 ->(G2 ->Prop) ->XW ->Prop
abbrev kj:=List D ->G2 ->(G2 ->Prop) ->XW ->Prop
section
variable(K:W.Frag)(F0 H0:Hp)
def FJ(g:iQ)(E:XW):TG:=fun v σ H Q=>∃F Γ P d,SR K F0 H0 F H σ Γ/\Rep K F d v/\g d Γ P E/\∀Γ' F' H' σ',SR K F0 H0 F' H' σ' Γ' ->Same F F' ->P Γ' ->Q σ' H'
def Kg(g:kj)(E:XW):tZ:=fun vs σ H Q=>∃F Γ P ds,SR K F0 H0 F H σ Γ/\ak K F ds vs/\g ds Γ P E/\∀Γ' F' H' σ',SR K F0 H0 F' H' σ' Γ' ->Same F F' ->P Γ' ->Q σ' H'
end
def QG(X:Cx)(F0 H0:Hp)(e:Expr)(g:iQ):Prop:=∀z E,Ctx (X.wsh z) F0 H0 E ->PG (X.wsh z) e (FJ X.K F0 H0 g E)
def FN(X:Cx)(F0 H0:Hp)(es:List Expr)(g:kj):Prop:=∀z E,Ctx (X.wsh z) F0 H0 E ->vR (X.wsh z) es (Kg X.K F0 H0 g E)
section
variable{X:Cx}{F0 H0:Hp}{e tg:Expr}{es:List Expr}{pos:Pos}{te:aB}{g:iQ}{gs:kj}
theorem R9(h:PG X e t)(hi:∀v σ H Q,t' v σ H Q ->t v σ H Q):PG X e t' :=fun pins s σ H v u Q I r q=>h pins s σ H v u Q I r (hi _ _ _ _ q)
theorem Bk(h:vR X es t)(hi:∀v σ H Q,t' v σ H Q ->t v σ H Q):vR X es t' :=fun pins s σ H v u Q I r q=>h pins s σ H v u Q I r (hi _ _ _ _ q)
def hName(i:Nat):iQ:=fun d Γ Q _=>Q (Γ.set i (.pu d))
theorem jZ(hN:X.N.Nodup)(hi:X.N[i]?=some x)(hx:Loc X.env.scope x)(hf:X.fn x=true\/X.env.scope.names.lookup x=some .local:=by first | exact .inl rfl | exact .inr rfl):QG X F0 H0 (.Name x pos) (hName i):=fun z E cx=>
 R9 (Qx (X:=X.wsh z) (i:=i) hN hi hx hf) fun v σ H Q hq1=>by obtain⟨F,Γ,P,d,R,r,h,k⟩:=hq1;exact k _ _ _ _ (R.set i r) (.refl _) h
def ur:kj:=fun ds Γ Q _=>ds= []/\Q Γ
def kZ(g:iQ)(gs:kj):kj:=fun ds Γ Q E=>match ds with | d::r=>g d Γ (fun Γ' =>gs r Γ' Q E) E | []=>False
theorem Sd:FN X F0 H0 [] ur:=fun z E cx=>Bk YX fun vs σ H Q hq2=>by
 obtain⟨F,Γ,P,ds,R,r,h,k⟩:=hq2;obtain⟨rfl,h⟩:=h;unfold ak at r;exact⟨r,k _ _ _ _ R (.refl _) h⟩
theorem FP(h1:QG X F0 H0 e g)(h2:FN X F0 H0 es gs)(hs:(assignEach (e::es) X.env).map (·.2)=assign e X.env::(assignEach es X.env).map (·.2):=by rfl):FN X F0 H0 (e::es) (kZ g gs):=fun z E cx=>
 Bk (YZ (X:=X.wsh z) (h1 z E cx) (h2 z E cx) hs) fun vs σ H Q pN=>by
  obtain⟨F,Γ,P,ds,R,r,h,k⟩:=pN;cases ds with
  | nil=>exact False.elim h
  | cons d ds=>
   unfold ak at r;obtain⟨v,us,rfl,r1,r2⟩:=r;exact⟨v,us,rfl,F,Γ,_,d,R,r1,h,fun Γ1 F1 H1 σ1 R1 s1 q=>⟨F1,Γ1,P,ds,R1,r2.up s1,q,fun Γ2 F2 H2 σ2 R2 s2 p=>k _ _ _ _ R2 (s1.trans s2) p⟩⟩
def uw(n:Nat)(gs:kj):iQ:=fun d Γ Q E=>match d with | .tup ds=>ds.length=n/\gs ds Γ Q E | _=>False
theorem Sg(hc:X.calm=true)(h:FN X F0 H0 es gs)(hn:(assignEach es X.env).length=n:=by rfl)(hst:(assignEach es X.env).findIdx? (·.1)=none:=by rfl):QG X F0 H0 (.Tuple es k pos) (uw n gs):=fun z E cx=>
 R9 (Y0 (X:=X.wsh z) (n:=n) hc (h z E cx) hn hst) fun v σ H Q ou=>by
  obtain⟨F,Γ,P,d,R,r,h,k⟩:=ou;cases d with
  | tup ds=>
   unfold Rep at r;obtain⟨a,vs,rfl,hq,rs⟩:=r;exact⟨a,vs,rfl,jy R.g hq,by rw[<- fY rs];exact h.1,F,Γ,P,ds,R,rs,h.2,k⟩
  | _=>exact False.elim h
def Kh(te:aB)(g:iQ):aq:=fun D Γ E=>te Γ (fun d Γ1=>g d Γ1 D.nx E) E
def wC(i j:Nat)(t:aO):aq:=fun D Γ E=>t Γ (fun ds Γ1=>match ds with | [x,y]=>D.nx ((Γ1.set i (.pu x)).set j (.pu y)) | _=>False) E
theorem zwi{kt k2 vV}(hc:X.calm=true)(hN:X.N.Nodup)(hi:X.N[i]?=some x)(hj:X.N[j]?=some y)(hij:i≠j)
  (hx:X.env.scope.names.lookup x=some .local) (hy:X.env.scope.names.lookup y=some .local) (ha:QA X F0 H0 [a,b] t)
  (hw:swappedStores [.Tuple [.Name x px,.Name y py] kt pt] (.Tuple [a,b] k2 vV) X.env=pure (some [x,y])) (hs:swapsWithSole [.Tuple [.Name x px,.Name y py] kt pt] (.Tuple [a,b] k2 vV) pos.line X.env=pure false:=by rfl):
  QS X F0 H0 (.Assign [.Tuple [.Name x px,.Name y py] kt pt] (.Tuple [a,b] k2 vV) pos) (wC i j t):=fun z E cx=>
 j9 (Y6 (X:=X.wsh z) (i:=i) (j:=j) hc hN hi hj hij hx hy (ha z E cx) hw hs) fun D σ H Bg=>by obtain⟨F,Γ,D2,R,h,k⟩:=Bg;exact⟨F,Γ,_,R,h,fun ds Γ1 F1 H1 vs R1 s1 r1 h1=>by
  match ds,r1,h1 with
  | [d1,d2],r1,h1=>
   unfold ak ak ak at r1;obtain⟨v1,_,rfl,q1,v2,_,rfl,q2,rfl⟩:=r1;exact⟨v1,v2,rfl,k.nx _ _ _ _ ((R1.set i q1).set j q2) s1 h1⟩
  | [],_,h1=>exact False.elim h1
  | [_],_,h1=>exact False.elim h1
  | _::_::_::_,_,h1=>exact False.elim h1⟩
def oA(c:TT2)(tb:aq):aq:=fun D Γ E=>∃W:Nat ->G2 ->Prop,(∃m,W m Γ)/\∀m Γ,W m Γ ->
 c Γ (fun b Γ1=>if b=true then tb {D with nx:=fun Γ' =>∃m',m' <m/\W m' Γ',ct:=fun Γ' =>∃m',m' <m/\W m' Γ',bk:=D.nx} Γ1 E else D.nx Γ1) E
theorem Sh(hc:QT X F0 H0 c tc)(hb:lY X F0 H0 body tb):QS X F0 H0 (.While c body [] pos) (oA tc tb):=fun z E cx=>
 j9 (Za cx.po (hc z E cx) (hb z E cx)) fun D σ H Ih=>by
  obtain⟨F,Γ,D2,R,⟨W,⟨m,w0⟩,turn⟩,k⟩:=Ih;refine⟨fun m σ H=>∃F1 Γ1,SR X.K F0 H0 F1 H σ Γ1/\Same F F1/\W m Γ1,⟨m,F,Γ,R,.refl _,w0⟩,fun m σ H ⟨F1,Γ1,R1,s1,w1⟩=>⟨F1,Γ1,_,R1,turn m Γ1 w1,fun b Γ2 F2 H2 R2 s2 q=> ?_⟩⟩;cases b with
  | true=>
   rw[if_pos rfl] at q⊢;refine⟨fun σ' H' =>∃m',m' <m/\∃F3 Γ3,SR X.K F0 H0 F3 H' σ' Γ3/\Same F F3/\W m' Γ3,fun σ' H' z=>z,F2,Γ2,_,R2,q,⟨fun Γ3 F3 H3 σ3 R3 s3 ⟨m',l,w3⟩=>⟨m',l,F3,Γ3,R3,s1.trans (s2.trans s3),w3⟩,fun Γ3 F3 H3 σ3 R3 s3 p=>k.nx _ _ _ _ R3 (s1.trans (s2.trans s3)) p,
    fun Γ3 F3 H3 σ3 R3 s3 ⟨m',l,w3⟩=>⟨m',l,F3,Γ3,R3,s1.trans (s2.trans s3),w3⟩,k.rt,k.rf,k.rT,k.rm⟩⟩
  | false=>
   rw[if_neg Bool.false_ne_true] at q⊢;exact k.nx _ _ _ _ R2 (s1.trans s2) q
def Kl(K:W.Frag)(tl:TE):TI:=fun σ H R=>tl σ H fun x H1=>∃a,x= .ref a/\ (((∃xs,dW K H1 a xs)/\R (vX K a) H1)\/ ((∃xs,iw K H1 a xs)/\R (uY K a) H1))
theorem Ss(hl:PE X l tl):PI X tg l (Kl X.K tl):=by
 intro pins s σ H R I h;refine aY (hl pins s σ H _ I h) fun v s1 hq9=> ?_;obtain⟨x,H1,I1,r1,q1⟩:=hq9;obtain⟨a,e,q⟩:=q1;subst e;cases r1;rcases q with ⟨⟨xs,hq⟩,q⟩ | ⟨⟨xs,hq⟩,q⟩
 ·obtain⟨its,rv,p,hz⟩:=I1.list hq;refine wpAny_pyIter_list p.isList ?_;refine⟨s1.heap.objs.size,[s1.heap.objs.size],_,_,H1,rfl,I1.kept (t' :=s1.toks) fun b o e=>z8 _ e,Qz a _,⟨_,z9 _ rfl,rfl,rfl⟩,fun b hb=> ?_,q⟩;obtain rfl:b=s1.heap.objs.size:=by simpa using hb
  exact I1.fpOk (zO _) (I1.hok.fresh (zO _))
 ·obtain⟨its,rv,p,hz⟩:=I1.tuple hq;refine wpAny_pyIter_tuple (show s1.heap.IsTuple a its.toArray from p) ?_;refine⟨s1.heap.objs.size,[s1.heap.objs.size],_,_,H1,rfl,I1.kept (t' :=s1.toks) fun b o e=>z8 _ e,QB a _,⟨_,z9 _ rfl,rfl,rfl⟩,fun b hb=> ?_,q⟩;obtain rfl:b=s1.heap.objs.size:=by simpa using hb
  exact I1.fpOk (zO _) (I1.hok.fresh (zO _))
def lg(ds:List D)(g:iQ)(tb:aq)(D0:iT)(E:XW)(Γ:G2):Prop:=∃I:Nat ->G2 ->Prop,I 0 Γ/\
 (∀(i:Nat) x Γ,ds[i]?=some x ->I i Γ ->g x Γ (fun Γ' =>tb {D0 with nx:=I (i+1),ct:=I (i+1),bk:=D0.nx} Γ' E) E)/\∀Γ,I ds.length Γ ->D0.nx Γ
def qJ(te:aB)(g:iQ)(tb:aq):aq:=fun D0 Γ E=>te Γ (fun d Γ1=>match d with | .lst ds=>lg ds g tb D0 E Γ1 | .tup ds=>lg ds g tb D0 E Γ1 | _=>False) E
theorem FQ(hc:X.calm=true)(hi:QE X F0 H0 iter te)(hg:QG X F0 H0 tg g)(hb:lY X F0 H0 body tb)(hs:∀x,foldedSetIterable iter X.env x=pure x:=by intro _;rfl):
  QS X F0 H0 (.For tg iter body [] pos) (qJ te g tb):=fun z E cx=>
 j9 (Ey (X:=X.wsh z) cx.po hc (Ss (hi z E cx)) (hg z E cx) (hb z E cx) hs) fun Dn σ H wB=>by obtain⟨F,Γ,D2,R,h,k⟩:=wB;exact⟨F,Γ,_,R,h,fun d Γ1 F1 H1 v R1 s1 r1 h1=>by
  have body:∀(ds:List L3.D) (vs:List V),ak X.K F1 ds vs ->∀I:Nat ->G2 ->Prop,(∀(i:Nat) x Γ,ds[i]?=some x ->I i Γ ->g x Γ (fun Γ' =>tb {D2 with nx:=I (i+1),ct:=I (i+1),bk:=D2.nx} Γ' E) E) ->
    ∀(i:Nat) x σ H,vs[i]?=some x ->(∃F2 Γ2,SR X.K F0 H0 F2 H σ Γ2/\Same F1 F2/\I i Γ2) ->FJ X.K F0 H0 g E x σ H fun σ2 H2=>yC X.K F0 H0 tb E {Dn with nx:=fun σ H=>∃F2 Γ2,SR X.K F0 H0 F2 H σ Γ2/\Same F1 F2/\I (i+1) Γ2,ct:=fun σ H=>∃F2 Γ2,SR X.K F0 H0 F2 H σ Γ2/\Same F1 F2/\I (i+1) Γ2,bk:=Dn.nx} σ2 H2:=by
   rintro ds vs rs I turn i x σ H hx ⟨F2,Γ2,R2,s2,hI⟩;obtain⟨d,hd,rd⟩:=RK rs hx;exact⟨F2,Γ2,_,d,R2,rd.up s2,turn i d Γ2 hd hI,fun Γ3 F3 H3 σ3 R3 s3 p=>⟨F3,Γ3,{D2 with nx:=I (i+1),ct:=I (i+1),bk:=D2.nx},R3,p,⟨fun Γ4 F4 H4 σ4 R4 s4 q=>⟨F4,Γ4,R4,s2.trans (s3.trans s4),q⟩,fun Γ4 F4 H4 σ4 R4 s4 q=>k.nx _ _ _ _ R4 (s1.trans (s2.trans (s3.trans s4))) q,
    fun Γ4 F4 H4 σ4 R4 s4 q=>⟨F4,Γ4,R4,s2.trans (s3.trans s4),q⟩,k.rt,k.rf,k.rT,k.rm⟩⟩⟩
  cases d with
  | lst ds=>
   unfold Rep at r1;obtain⟨a,vs,rfl,hq,rs⟩:=r1;obtain⟨I,i0,turn,done⟩:=h1;refine⟨a,rfl,.inl ⟨⟨vs,R1.g.seq hq⟩,QJ (xs:=vs) (fun i σ H=>∃F2 Γ2,SR X.K F0 H0 F2 H σ Γ2/\Same F1 F2/\I i Γ2) ⟨F1,Γ1,R1,.refl _,i0⟩ (fun i σ H _ ⟨F2,Γ2,R2,s2,_⟩=>R2.g.seq (s2.seq hq)) (body ds vs rs I turn) ?_⟩⟩;rintro σ H ⟨F2,Γ2,R2,s2,hI⟩;exact k.nx _ _ _ _ R2 (s1.trans s2) (done _ (by rw[fY rs];exact hI))
  | tup ds=>
   unfold Rep at r1;obtain⟨a,vs,rfl,hq,rs⟩:=r1;obtain⟨I,i0,turn,done⟩:=h1;refine⟨a,rfl,.inr ⟨⟨vs,jy R1.g hq⟩,Zg (xs:=vs) (fun i σ H=>∃F2 Γ2,SR X.K F0 H0 F2 H σ Γ2/\Same F1 F2/\I i Γ2) ⟨F1,Γ1,R1,.refl _,i0⟩ (fun i σ H _ ⟨F2,Γ2,R2,s2,_⟩=>jy R2.g (jy s2 hq)) (body ds vs rs I turn) ?_⟩⟩;rintro σ H ⟨F2,Γ2,R2,s2,hI⟩;exact k.nx _ _ _ _ R2 (s1.trans s2) (done _ (by rw[fY rs];exact hI))
  | _=>exact False.elim h1⟩
def pQ(lo:Int)(n:Nat)(g:iQ)(tb:aq)(D0:iT)(E:XW)(Γ:G2):Prop:=∃I:Nat ->G2 ->Prop,I 0 Γ/\
 (∀(i:Nat) Γ,i<n ->I i Γ ->g (.int (lo+i)) Γ (fun Γ' =>tb {D0 with nx:=I (i+1),ct:=I (i+1),bk:=D0.nx} Γ' E) E)/\∀Γ,I n Γ ->D0.nx Γ
theorem zv0{K:W.Frag}{F1 H1:Hp}{Γ1:G2}{σ:St}{lo:Int}{n:Nat}{tb:aq}{D2:iT}{D:Ends}{E:XW}(R1:SR K F0 H0 F1 H1 σ Γ1)(h:pQ lo n g tb D2 E Γ1)(k:j8 K F0 H0 F1 D2 D):
  ∃W:Nat ->Nat ->St ->Hp ->Prop,(∃m,W 0 m σ H1)/\∀i m σ H,W i m σ H ->((tH lo n).stop i H/\D.nx σ H)\/ ((tH lo n).go i H/\∃N:St ->Hp ->Prop,(∀σ' H',N σ' H' ->∃m',m' <m/\W (i+1) m' σ' H')/\
   ∀x H',(tH lo n).yld i H x H' ->FJ K F0 H0 g E x σ H' fun σ2 H2=>yC K F0 H0 tb E {D with nx:=N,ct:=N,bk:=D.nx} σ2 H2):=by
 obtain⟨I,i0,turn,done⟩:=h;refine Zh (lo:=lo) (n:=n) (fun i σ H=>∃F2 Γ2,SR K F0 H0 F2 H σ Γ2/\Same F1 F2/\I i Γ2) ⟨F1,Γ1,R1,.refl _,i0⟩ ?_ ?_
 ·rintro i σ H hi ⟨F2,Γ2,R2,s2,hI⟩;exact⟨F2,Γ2,_,.int (lo+i),R2,by unfold Rep;rfl,turn i Γ2 hi hI,fun Γ3 F3 H3 σ3 R3 s3 p=>⟨F3,Γ3,_,R3,p,⟨fun Γ4 F4 H4 σ4 R4 s4 q=>⟨F4,Γ4,R4,s2.trans (s3.trans s4),q⟩,fun Γ4 F4 H4 σ4 R4 s4 q=>k.nx _ _ _ _ R4 (s2.trans (s3.trans s4)) q,
   fun Γ4 F4 H4 σ4 R4 s4 q=>⟨F4,Γ4,R4,s2.trans (s3.trans s4),q⟩,k.rt,k.rf,k.rT,k.rm⟩⟩⟩
 ·rintro σ H ⟨F2,Γ2,R2,s2,hI⟩;exact k.nx _ _ _ _ R2 s2 (done _ hI)
def lq(t:aO)(g:iQ)(tb:aq):aq:=fun D0 Γ E=>t Γ (fun ds Γ1=>match ds with | [.int j]=>(-(2^62)<=j/\j<2^62)/\pQ 0 j.toNat g tb D0 E Γ1 | _=>False) E
theorem Bl(hc:X.calm=true)(hgl:Gl X "range")(hm:X.mg "range" =none)(ha:QA X F0 H0 [a] t)(hg:QG X F0 H0 tg g)(hb:lY X F0 H0 body tb)
  (hst:starEach [a] X.env= [(false,eval a X.env)]:=by rfl) (hs:∀x,foldedSetIterable (.Call (.Name "range" p) [a] [] pc) X.env x=pure x:=by intro _;rfl):QS X F0 H0 (.For tg (.Call (.Name "range" p) [a] [] pc) body [] pos) (lq t g tb):=fun z E cx=>
 j9 (Ey (X:=X.wsh z) cx.po hc (Ze hgl hm (ha z E cx) hst) (hg z E cx) (hb z E cx) hs) fun D σ H qy=>by obtain⟨F,Γ,D2,R,h,k⟩:=qy;exact⟨F,Γ,_,R,h,fun ds Γ1 F1 H1 vs R1 s1 r1 h1=>by
  split at h1
  ·rename_i j;unfold ak ak Rep at r1;obtain⟨v,_,rfl,rfl,rfl⟩:=r1;exact⟨j,rfl,h1.1.1,h1.1.2,zv0 R1 h1.2 (k.mono s1)⟩
  ·exact False.elim h1⟩
def Sv(t:aO)(g:iQ)(tb:aq):aq:=fun D0 Γ E=>t Γ (fun ds Γ1=>match ds with | [.int i,.int j]=>(-(2^62)<=i/\i<2^62/\ -(2^62)<=j/\j<2^62)/\pQ i (j - i).toNat g tb D0 E Γ1 | _=>False) E
def Km(lo st:Int)(n:Nat):It:=⟨fun i _=>i<n,fun i H x H' =>H' =H/\x= .int (lo+i*st),fun i _=>n<=i⟩
def Sw(ta:TA):TI:=fun σ H R=>ta σ H fun vs H1=>∃(i j k:Int) (n:Nat),vs= [.int i,.int j,.int k]/\k≠0/\k.natAbs<1073741824/\Builtin.Range.small i j k=true/\Builtin.Range.rangeSize i j k=(n:Int)/\R (Km i k n) H1
def Ko(lo st:Int)(n:Nat)(g:iQ)(tb:aq)(D0:iT)(E:XW)(Γ:G2):Prop:=∃I:Nat ->G2 ->Prop,I 0 Γ/\
 (∀(i:Nat) Γ,i<n ->I i Γ ->g (.int (lo+i*st)) Γ (fun Γ' =>tb {D0 with nx:=I (i+1),ct:=I (i+1),bk:=D0.nx} Γ' E) E)/\∀Γ,I n Γ ->D0.nx Γ
def Sx(t:aO)(g:iQ)(tb:aq):aq:=fun D0 Γ E=>t Γ (fun ds Γ1=>match ds with
 | [.int i,.int j,.int k]=>∃n:Nat,k≠0/\k.natAbs<1073741824/\Builtin.Range.small i j k=true/\Builtin.Range.rangeSize i j k=(n:Int)/\Ko i k n g tb D0 E Γ1
 | _=>False) E
end
abbrev bH:=List D ->(D ->Prop) ->(XV ->Prop) ->Prop
def jC(K:W.Frag)(sp:bH):Sp:=fun vs H Q E=>∃F ds P Ex,Same F H/\ak K F ds vs/\sp ds P Ex/\ (∀d v F' H',Gr F H F' H' ->Rep K F' d v ->P d ->Q v H')/\n8 K F H Ex E
def aP(sp:bH)(t:aO):aB:=fun Γ P E=>t Γ (fun ds Γ1=>sp ds (fun d=>P d Γ1) fun C=>E Γ1 C) E
section
variable{X:Cx}{F0 H0:Hp}{e:Expr}{es:List Expr}{pos p:Pos}{x:Str}{f:Addr}{fd:FuncData}{ps:List Str}{k:Nat}{sp:bH}{t:aO}
theorem Kp(Fn:cJ X.prog X.w X.K X.mg X.base (cN X.prog X.w) k f fd ps (jC X.K sp))(hr:bT k X.A)(hb:Binds X.K fd ps [])(cx:Ctx (X.wsh z) F0 H0 E)
  (I:Inv (X.wsh z) pins σ H s) (R:SR X.K F0 H0 F H σ Γ) (r:Vals vs us) (rs:ak X.K F ds vs) (h:sp ds P fun C=>E Γ C) (hQ:∀d v F' H',Gr F H F' H' ->Rep X.K F' d v ->P d ->Q v H'):
  wpAny (model X.prog X.w) X.A (call (.ref f) us) (EP (X.wsh z) pins σ Q) z.xe s:=by
 have hs:jC X.K sp vs H Q (fun C dx H' =>∃x F',E Γ x/\Gr F H F' H' /\qG X.K F' H H' C dx x):=⟨F,ds,P,_,R.g,rs,h,hQ,fun x C dx F' H' hE gr xr=>⟨x,F',hE,gr,xr⟩⟩;have hl:(us++ []).length=ps.length:=by rw[List.append_nil,<- r.length];exact Fn.len _ _ _ _ hs
 have hbs:=hb s us I.kIn hl;rw[List.append_nil] at hbs;refine wpAny_call (codeAny_mono (Fn.run X.A X.stack s H ⟨us,[]⟩ us vs Q _ hr I.env0 hbs r hs) fun r s' hq=> ?_);cases r with
 | error e=>exact cx.px pins σ Γ F H s e s' I R hq
 | ok fl=>
  cases fl with
  | ret u=>exact I.after hq
  | next=>exact False.elim hq
  | brk=>exact False.elim hq
  | cont=>exact False.elim hq
theorem zt4(Fn:cJ X.prog X.w X.K X.mg X.base (cN X.prog X.w) k f fd ps (jC X.K sp))(hr:bT k X.A)(hg:Gl X x)(hm:X.mg x=some (.ref f))(hk:W.keepIn X.K (.ref f)=true)(hb:Binds X.K fd ps [])
  (ha:QA X F0 H0 (e::es) t) (hdb:(x==("__debug__" :Str))=false:=by decide) (he:starEach (e::es) X.env=(false,eval e X.env)::starEach es X.env:=by rfl) (hpl:(backTo pos (starEach es X.env)).any (·.1)=false:=by rfl):
  QE X F0 H0 (.Call (.Name x p) (e::es) [] pos) (aP sp t):=by
 rintro z E cx pins s σ H Q I ⟨F,Γ,P,R,h,kk⟩;refine wpAny_Call_Name_kw (yh (X:=X.wsh z) I hg hm ?_ hdb);refine W.callWith_K (h₀:=X.base) I.ok.mod.zm hk (aY (ha z E cx pos pins s σ H (fun vs H1=>∃F1 Γ1 ds,SR X.K F0 H0 F1 H1 σ Γ1/\Same F F1/\ak X.K F1 ds vs/\sp ds (fun d=>P d Γ1) fun C=>E Γ1 C) I ⟨F,Γ,_,R,h,fun ds Γ1 F1 H1 vs R1 s1 r1 h1=>⟨F1,Γ1,ds,R1,s1,r1,h1⟩⟩) fun us s1 hqq=> ?_) he hpl;obtain⟨vs,H1,I1,r,F1,Γ1,ds,R1,sF,rs,q⟩:=hqq;refine⟨I1.kIn,?_⟩;exact Kp Fn hr hb cx I1 R1 r rs q fun d v F' H' gr rv hp=>kk d Γ1 F' H' v (R1.grow gr) (sF.trans gr.f) rv hp
end
def aK(n:Nat)(ds:List D):G2:=ds.map .pu++List.replicate (n - ds.length) .no
abbrev cO(N:List Str)(ds:List D):G2:=aK N.length ds
theorem FT{K:W.Frag}{F0 H:Hp}{N:List Str}{ds:List D}{vs:List V}(h:Same F0 H)(r:ak K F0 ds vs):SR K F0 H F0 H (L2.start N vs) (cO N ds):=by
 have hl:=fY r;refine⟨Gr.refl h,by simp [L2.start,cO,aK,hl],fun i s e=> ?_,fun i j a e _=> ?_⟩
 ·unfold cO aK at e;unfold L2.start;by_cases hi:i<ds.length
  ·rw[List.getElem?_append_left (by simpa using hi),List.getElem?_map] at e
   cases q:ds[i]? with
   | none=>rw[q] at e;cases e
   | some d=>
    rw[q] at e;cases e;obtain⟨v,e1,r1⟩:=o9 r q;refine⟨some v,?_,v,rfl,r1⟩;rw[List.getElem?_append_left (by rw[List.length_map,<- hl];exact hi),List.getElem?_map,e1];rfl
  ·rw[List.getElem?_append_right (by simpa using hi),List.getElem?_replicate] at e
   split at e
   ·cases e;rename_i hlt;simp only [List.length_map] at hlt;refine⟨none,?_,trivial⟩;rw[List.getElem?_append_right (by rw[List.length_map,<- hl];omega),List.getElem?_replicate,if_pos (by rw[List.length_map,<- hl];exact hlt)]
   ·cases e
 ·exfalso
  obtain⟨s,o,e,_,hs⟩:=e;unfold cO aK at e;by_cases hi:i<ds.length
  ·rw[List.getElem?_append_left (by simpa using hi),List.getElem?_map] at e
   cases q:ds[i]? with
   | none=>rw[q] at e;cases e
   | some d=>rw[q] at e;cases e;exact hs
  ·rw[List.getElem?_append_right (by simpa using hi),List.getElem?_replicate] at e
   split at e
   ·cases e;exact hs
   ·cases e
section
variable{P:Program}{w:World}{K:W.Frag}{mg:Str ->Option Value}{base:Heap}
theorem kE{x qual:Str}{st:Stmt}{f:Addr}{fd:FuncData}{N ps:List Str}{k:Nat}{sp:bH}(Fn:fK K x qual st f fd)(S:aA N ps (bF st))(len:∀ds Q E,sp ds Q E ->ds.length=ps.length)
  (hbody:∀(cdv:Value) (A:Around) (outer:List Env) (s:Shared) (H:Hp) (E:XK),bT k (A.deeper (envOfC qual (bF st) s.heap.objs.size f cdv)) ->∀F0:Hp,
   ∃t,lY (dF (cN P w) P w K mg base N qual (bF st) f cdv A outer s H E) F0 H (pJ st) t/\∀ds Q Ex,sp ds Q Ex ->t {nx:=fun _=>Q .non,rt:=Q} (cO N ds) fun _=>Ex):
  cJ P w K mg base (cN P w) (k+1) f fd ps (jC K sp):=by
 obtain⟨oc,od,kV,doc,pm,an,cdv,ct,osl,rfl,lk,hcd⟩:=Fn.ex;refine Fd lk hcd S (fun vs H Q E ⟨F,ds,P',Ex,_,rs,hs,_⟩=>by rw[<- fY rs];exact len _ _ _ hs) fun A outer s H vs Q E hr ⟨F0,ds,Pd,Ex,sF,rs,hsp,hQ,hE⟩=> ?_
 obtain⟨t,ht,hq⟩:=hbody cdv A outer s H E hr F0;have cx:Ctx ((dF (cN P w) P w K mg base N qual (bF st) f cdv A outer s H E).wsh ⟨(dF (cN P w) P w K mg base N qual (bF st) f cdv A outer s H E).xe,[]⟩) F0 H (fun _=>Ex):=by
  refine⟨fun pins σ Γ F H1 s1 e s' I R hx=> ?_,PassesOwn.leaving⟩;refine aY (Fp (E:=fun C dx H' =>E C dx H') I rfl rfl rfl (hx.imp fun C dx H' z=> ?_)) fun _ s'' z=>z;obtain⟨Γ',F',x,R',_,xr,_,z1⟩:=z;exact hE x C dx F' H' z1 R'.gr (xr.back R.gr.h)
 exact⟨_,ht _ _ cx,F0,cO N ds,{nx:=fun _=>Pd .non,rt:=Pd},FT sF rs,hq ds Pd Ex hsp,⟨fun Γ F' H' σ R' _ q=>hQ _ _ _ _ R'.gr (by unfold Rep;rfl) q,fun _ _ _ _ _ _ q=>q,fun _ _ _ _ _ _ q=>q,fun d v F' H' gr rv q=>hQ d v F' H' gr rv q,fun _ _ _ _ _ _ q=>q.elim,fun _ _ _ _ _ _ _ _ _ q=>q.elim,fun _ _ _ _ _ _ _ _ q=>q.elim⟩⟩
end
def cP(i:Int):Nat:=Builtin.Int.intBits i
theorem zux(h:cP i+cP j<=100000000):IntMulOk i j:=by
 unfold cP at h;unfold IntMulOk;intro z;simp only [Bool.and_eq_true,decide_eq_true_eq] at z;have z2:=z.2;unfold Builtin.Int.intTooBig at z2;have hb:bitsLine=134217728:=by rfl
 rw[hb] at z2;have:=of_decide_eq_true z2;omega
theorem jg(h:i.natAbs<2^k):cP i<=k:=by
 unfold cP Builtin.Int.intBits;split
 ·exact Nat.zero_le _
 ·rename_i q;have n0:i.natAbs≠0:=fun z=>by
   have:i=0:=Int.natAbs_eq_zero.mp z;subst this;exact q rfl
  have:=(Nat.log2_lt n0).mpr h;omega
theorem yG(h:cP i<=k):i.natAbs<2^k:=by
 unfold cP Builtin.Int.intBits at h;split at h
 ·rename_i q;have:i=0:=by simpa using q
  subst this;exact Nat.two_pow_pos k
 ·rename_i q;have n0:i.natAbs≠0:=fun z=>by
   have:i=0:=Int.natAbs_eq_zero.mp z;subst this;exact q rfl
  exact(Nat.log2_lt n0).mp (by omega)
theorem FW(i j:Int):cP (i*j)<=cP i+cP j:=by
 refine jg ?_;rw[Int.natAbs_mul,Nat.pow_add];exact Nat.mul_lt_mul'' (yG (zO _)) (yG (zO _))
theorem Sy(i j:Int):cP (i+j)<=max (cP i) (cP j)+1:=by
 refine jg ?_;have h1:i.natAbs<2^ (max (cP i) (cP j)):=yG (Nat.le_max_left _ _);have h2:j.natAbs<2^ (max (cP i) (cP j)):=yG (Nat.le_max_right _ _);have h3:=Int.natAbs_add_le i j;rw[Nat.pow_succ];omega
theorem Kq(h:i.natAbs<=j.natAbs):cP i<=cP j:=jg (Nat.lt_of_le_of_lt h (yG (zO _)))
section
variable{X:Cx}
theorem FZ{f:Value ->Value ->Sem Value}{C:Int ->Int ->Prop}{v:Int ->Int ->V}{d:Int ->Int ->D}{g:D ->D ->(D ->Prop) ->Prop}(ho:dJ X f (rI C v))(hg:∀x y P,g x y P ->∃i j,x= .int i/\y= .int j/\C i j/\P (d i j))(hd:∀i j F,Rep X.K F (d i j) (v i j)):dJ X f (jf X.K g):=by
 rintro pins s σ H x y u w Q I rx ry ⟨F,d1,d2,P,sF,r1,r2,h,k⟩;obtain⟨i,j,rfl,rfl,hc,hp⟩:=hg _ _ _ h;unfold Rep at r1 r2;subst r1 r2;exact ho pins s σ H _ _ u w Q I rx ry ⟨i,j,rfl,rfl,hc,k _ _ F H (Gr.refl sF) (hd i j F) hp⟩
theorem Ga{f:Value ->Value ->Sem Value}{v:Int ->Int ->V}{d:Int ->Int ->D}{g:D ->D ->(D ->Prop) ->Prop}(ho:dJ X f (uZ v))(hg:∀x y P,g x y P ->∃i j,x= .int i/\y= .int j/\P (d i j))(hd:∀i j F,Rep X.K F (d i j) (v i j)):dJ X f (jf X.K g):=by
 rintro pins s σ H x y u w Q I rx ry ⟨F,d1,d2,P,sF,r1,r2,h,k⟩;obtain⟨i,j,rfl,rfl,hp⟩:=hg _ _ _ h;unfold Rep at r1 r2;subst r1 r2;exact ho pins s σ H _ _ u w Q I rx ry ⟨i,j,rfl,rfl,k _ _ F H (Gr.refl sF) (hd i j F) hp⟩
def wI(C:Int ->Int ->Prop)(d:Int ->Int ->D):D ->D ->(D ->Prop) ->Prop:=fun x y P=>match x,y with
 | .int i,.int j=>C i j/\P (d i j)
 | _,_=>False
theorem Gb(h:wI C d x y P):∃i j,x= .int i/\y= .int j/\C i j/\P (d i j):=by
 unfold wI at h;split at h
 ·exact⟨_,_,rfl,rfl,h⟩
 ·exact h.elim
def vg(d:Int ->Int ->D):D ->D ->(D ->Prop) ->Prop:=fun x y P=>match x,y with
 | .int i,.int j=>P (d i j)
 | _,_=>False
theorem Gd(h:vg d x y P):∃i j,x= .int i/\y= .int j/\P (d i j):=by
 unfold vg at h;split at h
 ·exact⟨_,_,rfl,rfl,h⟩
 ·exact h.elim
def dG:D ->D ->(D ->Prop) ->Prop:=fun x y P=>match x,y with
 | .int i,.int j=>P (.int (i+j))
 | .str i,.str j=>i.length+j.length<=sizeLine/\P (.str (i++j))
 | _,_=>False
theorem lU:dJ X (binaryOp .Add) (jf X.K dG):=by
 rintro pins s σ H x y u w Q I rx ry ⟨F,d1,d2,P,sF,r1,r2,h,k⟩;unfold dG at h;split at h
 ·unfold Rep at r1 r2;subst r1 r2;exact Zn pins s σ H _ _ u w Q I rx ry ⟨_,_,rfl,rfl,k _ _ F H (Gr.refl sF) (by unfold Rep;rfl) h⟩
 ·unfold Rep at r1 r2;subst r1 r2;exact ZF pins s σ H _ _ u w Q I rx ry ⟨_,_,rfl,rfl,h.1,k _ _ F H (Gr.refl sF) (by unfold Rep;rfl) h.2⟩
 ·exact h.elim
def gH:D ->D ->(D ->Prop) ->Prop:=vg fun i j=> .int (i - j)
theorem qK:dJ X (binaryOp .Sub) (jf X.K gH):=Ga Zo (fun _ _ _ h=>Gd h) fun _ _ _=>by unfold Rep;rfl
def pR(i j:Int):Prop:=cP i<=64\/cP j<=64\/cP i+cP j<=100000000
theorem pR.ok(h:pR i j):IntMulOk i j:=by
 rcases h with h | h | h
 ·exact .of_left h
 ·exact .of_right h
 ·exact zux h
def fC:D ->D ->(D ->Prop) ->Prop:=wI pR fun i j=> .int (i*j)
theorem nG:dJ X (binaryOp .Mult) (jf X.K fC):=FZ (C:=pR) (v:=fun i j=> .int (i*j)) (EY fun i j _ _ _ _ _ hc q=>mul_int q hc.ok) (fun _ _ _ h=>Gb h) fun _ _ _=>by unfold Rep;rfl
def jq:D ->D ->(D ->Prop) ->Prop:=wI (fun _ j=>j≠0/\cP j<=9000) fun i j=> .int (i.fdiv j)
theorem tK:dJ X (binaryOp .FloorDiv) (jf X.K jq):=FZ (C:=fun _ j=>j≠0/\cP j<=9000) (v:=fun i j=> .int (i.fdiv j)) (EY fun i j _ _ _ _ _ hc q=>floordiv_int hc.1 q (.inl (PyProof.noPylong_of_log2 (by
 have:=yG hc.2;exact(Nat.log2_lt (fun z=>hc.1 (Int.natAbs_eq_zero.mp z))).mpr this)))) (fun _ _ _ h=>Gb h) fun _ _ _=>by unfold Rep;rfl
def bN:D ->D ->(D ->Prop) ->Prop:=wI (fun _ j=>j≠0) fun i j=> .int (i.fmod j)
theorem iz:dJ X (binaryOp .Mod) (jf X.K bN):=FZ (C:=fun _ j=>j≠0) Zq (fun _ _ _ h=>Gb h) fun _ _ _=>by unfold Rep;rfl
def uz:D ->D ->(D ->Prop) ->Prop:=wI ud fun i j=> .int (i^j.toNat)
theorem SJ:dJ X (binaryOp .Pow) (jf X.K uz):=FZ Zr (fun _ _ _ h=>Gb h) fun _ _ _=>by unfold Rep;rfl
def yI:D ->D ->(D ->Prop) ->Prop:=vg fun i j=> .bl (decide (i<j))
theorem uD:dJ X (compareOp .Lt) (jf X.K yI):=Ga Zu (fun _ _ _ h=>Gd h) fun _ _ _=>by unfold Rep;rfl
def yJ:D ->D ->(D ->Prop) ->Prop:=vg fun i j=> .bl (decide (i<=j))
theorem uE:dJ X (compareOp .LtE) (jf X.K yJ):=Ga Zv (fun _ _ _ h=>Gd h) fun _ _ _=>by unfold Rep;rfl
def Ge:D ->D ->(D ->Prop) ->Prop:=vg fun i j=> .bl (decide (j<i))
theorem Bm:dJ X (compareOp .Gt) (jf X.K Ge):=Ga Zw (fun _ _ _ h=>Gd h) fun _ _ _=>by unfold Rep;rfl
def gGe:D ->D ->(D ->Prop) ->Prop:=vg fun i j=> .bl (decide (j<=i))
def qL:D ->Bool | .non=>true | _=>false
def gIs:D ->D ->(D ->Prop) ->Prop:=fun x y P=>match y with | .non=>P (.bl (qL x)) | .bl d=>(match x with | .bl c=>P (.bl (c==d)) | _=>False) | _=>False
def Kr:D ->D ->(D ->Prop) ->Prop:=fun x y P=>match y with | .non=>P (.bl (!qL x)) | .bl d=>(match x with | .bl c=>P (.bl (c !=d)) | _=>False) | _=>False
mutual
def dH:D ->D ->Bool
 | .non,.non=>true
 | .bl a,.bl b=>a==b
 | .int a,.int b=>a==b
 | .str a,.str b=>a==b
 | .tup xs,.tup ys=>bV xs ys
 | .lst xs,.lst ys=>bV xs ys
 | .exc a,.exc b=>a==b
 | .ptr a,.ptr b=>a==b
 | .obj C fs xs,.obj C' fs' ys=>decide (C=C')&&decide (fs=fs')&&bV xs ys
 | .fB ks xs,.fB ks' ys=>decide (ks=ks')&&bV xs ys
 | .fU ks xs,.fU ks' ys=>decide (ks=ks')&&bV xs ys
 | .n6 ks xs,.n6 ks' ys=>decide (ks=ks')&&bV xs ys
 | _,_=>false
def bV:List D ->List D ->Bool
 | [],[]=>true
 | x::xs,y::ys=>dH x y&&bV xs ys
 | _,_=>false
end
@[simp] def kd:D ->Nat
 | .non=>0
 | .bl _=>1
 | .int _=>2
 | .str _=>3
 | .tup _=>4
 | .lst _=>5
 | _=>6
@[simp] def pB (d d' :D):Bool:=kd d<6&&kd d' <6&&(kd d !=kd d' || kd d<4)&&(kd d !=1 || kd d' !=2)&&(kd d !=2 || kd d' !=1)
def fV:Nat ->D ->D ->Prop
 | n+1,.tup xs,.tup ys=>∀(i:Nat) x y,xs[i]?=some x ->ys[i]?=some y ->fV n x y
 | n+1,.lst xs,.lst ys=>∀(i:Nat) x y,xs[i]?=some x ->ys[i]?=some y ->fV n x y
 | _,d,d' =>pB d d' =true
end
mutual
theorem tL:∀d:D,dH d d=true
 | .non=>by simp [dH]
 | .bl _=>by simp [dH]
 | .int _=>by simp [dH]
 | .str _=>by simp [dH]
 | .tup xs=>by unfold dH;exact wD xs
 | .lst xs=>by unfold dH;exact wD xs
 | .exc _=>by simp [dH]
 | .ptr _=>by simp [dH]
 | .obj _ _ xs=>by unfold dH;rw[wD xs];simp
 | .fB _ xs=>by unfold dH;rw[wD xs];simp
 | .fU _ xs=>by unfold dH;rw[wD xs];simp
 | .n6 _ xs=>by unfold dH;rw[wD xs];simp
theorem wD:∀ds:List D,bV ds ds=true
 | []=>by simp [bV]
 | d::ds=>by unfold bV;rw[tL d,wD ds];rfl
end
open Classical in
theorem Ks:∀{xs ys:List D},xs.length=ys.length ->(∀e:Nat ->Bool,(∀(i:Nat) x y,xs[i]?=some x ->ys[i]?=some y ->e i=dH x y) ->(List.range xs.length).all e=bV xs ys)
 | [],[],_,_,_=>by simp [bV]
 | x::xs,y::ys,hl,e,he=>by
  have ih:=Ks (xs:=xs) (ys:=ys) (by simpa using hl) (fun i=>e (i+1)) fun i a b h1 h2=>he (i+1) a b (by simpa using h1) (by simpa using h2)
  rw[List.length_cons,List.range_succ_eq_map,List.all_cons,List.all_map];unfold bV;rw[he 0 x y rfl rfl]
  congr 1
theorem Ku:∀{xs ys:List D},xs.length≠ys.length ->bV xs ys=false
 | [],[],h=>absurd rfl h
 | [],_::_,_=>by simp [bV]
 | _::_,[],_=>by simp [bV]
 | x::xs,y::ys,h=>by
  unfold bV;rw[Ku (fun z=>h (by simp [z])),Bool.and_false]
end L3
namespace L3
open PySem PySem.Spec PyProof.Rows L2
theorem SM:∀{xs ys:List D},xs.length=ys.length ->(∀(i:Nat) x y,xs[i]?=some x ->ys[i]?=some y ->dH x y=true) ->bV xs ys=true
 | [],[],_,_=>by simp [bV]
 | x::xs,y::ys,hl,h=>by
  unfold bV;rw[h 0 x y rfl rfl,SM (by simpa using hl) fun i a b h1 h2=>h (i+1) a b (by simpa using h1) (by simpa using h2)]
  rfl
section
variable{X:Cx}{pins:aV}{σ:St}{F H:Hp}{s:Shared}
theorem SN(I:Inv X pins σ H s){a:Addr}{xs ys:List V}(h:dW X.K H a xs)(h' :iw X.K H a ys):False:=by
 obtain⟨its,_,⟨o,n,e,c,_,_⟩,_⟩:=I.list h;obtain⟨its',_,⟨o',e',c',_⟩,_⟩:=I.tuple h';rw[e] at e';cases e';rw[c] at c';injection c' with c';exact absurd c' (by decide)
theorem Gf{n:Nat}{d d' :D}(hc:fV n d d'):pB d d' =true\/ (∃m xs ys,n=m+1/\d= .tup xs/\d' = .tup ys/\∀(i:Nat) x y,xs[i]?=some x ->ys[i]?=some y ->fV m x y)\/
  ∃m xs ys,n=m+1/\d= .lst xs/\d' = .lst ys/\∀(i:Nat) x y,xs[i]?=some x ->ys[i]?=some y ->fV m x y:=by
 unfold fV at hc;split at hc
 ·exact .inr (.inl ⟨_,_,_,rfl,rfl,rfl,hc⟩)
 ·exact .inr (.inr ⟨_,_,_,rfl,rfl,rfl,hc⟩)
 ·exact .inl hc
theorem SQ(I:Inv X pins σ H s)(sF:Same F H):∀(n:Nat) (d d' :D) (v:V),fV n d d' ->Rep X.K F d v ->Rep X.K F d' v ->dH d d' =true:=by
 have flat:∀(d d' :D) (v:V),pB d d' =true ->Rep X.K F d v ->Rep X.K F d' v ->dH d d' =true:=by
  intro d d' v hf r r';cases d with
  | non=>simp only [Rep] at r;subst r;cases d' <;>simp only [Rep] at r' <;>first | rfl | (cases hf;done) | (cases r';done) | (obtain⟨_,_,z,_⟩:=r';cases z)
  | bl=>simp only [Rep] at r;subst r;cases d' <;>simp only [Rep] at r' <;>first | (cases hf;done) | (cases r';done) | (cases r';exact tL _) | (obtain⟨_,_,z,_⟩:=r';cases z)
  | int=>simp only [Rep] at r;subst r;cases d' <;>simp only [Rep] at r' <;>first | (cases hf;done) | (cases r';done) | (cases r';exact tL _) | (obtain⟨_,_,z,_⟩:=r';cases z)
  | str=>simp only [Rep] at r;subst r;cases d' <;>simp only [Rep] at r' <;>first | (cases hf;done) | (cases r';done) | (cases r';exact tL _) | (obtain⟨_,_,z,_⟩:=r';cases z)
  | tup=>simp only [Rep] at r;obtain⟨a,vs,rfl,h1,_⟩:=r;cases d' <;>simp only [Rep] at r' <;>first | (cases hf;done) | (cases r';done) | (obtain⟨_,_,z,h2,_⟩:=r';cases z;exact(SN I (sF.seq h2) (jy sF h1)).elim)
  | lst=>simp only [Rep] at r;obtain⟨a,vs,rfl,h1,_⟩:=r;cases d' <;>simp only [Rep] at r' <;>first | (cases hf;done) | (cases r';done) | (obtain⟨_,_,z,h2,_⟩:=r';cases z;exact(SN I (sF.seq h1) (jy sF h2)).elim)
  | _=>cases hf
 intro n;induction n with
 | zero=>
  intro d d' v hc r r';rcases Gf hc with h | ⟨_,_,_,h,_⟩ | ⟨_,_,_,h,_⟩
  ·exact flat d d' v h r r'
  ·cases h
  ·cases h
 | succ n ih=>
  intro d d' v hc r r';have go:∀{xs ys:List D} {vs us:List V},vs=us ->ak X.K F xs vs ->ak X.K F ys us ->(∀(i:Nat) x y,xs[i]?=some x ->ys[i]?=some y ->fV n x y) ->bV xs ys=true:=by
   intro xs ys vs us e r1 r2 hc;subst e;refine SM (by rw[fY r1,fY r2]) fun i x y h1 h2=> ?_
   obtain⟨v1,e1,q1⟩:=o9 r1 h1;obtain⟨v2,e2,q2⟩:=o9 r2 h2;rw[e1] at e2;cases e2;exact ih x y v1 (hc i x y h1 h2) q1 q2
  rcases Gf hc with h | ⟨_,xs,ys,h,rfl,rfl,hc⟩ | ⟨_,xs,ys,h,rfl,rfl,hc⟩
  ·exact flat d d' v h r r'
  ·cases h;simp only [Rep] at r r';obtain⟨a,vs,rfl,h1,q1⟩:=r;obtain⟨b,us,z,h2,q2⟩:=r';cases z;unfold dH;exact go (I.tuple_inj (jy sF h1) (jy sF h2)) q1 q2 hc
  ·cases h;simp only [Rep] at r r';obtain⟨a,vs,rfl,h1,q1⟩:=r;obtain⟨b,us,z,h2,q2⟩:=r';cases z;unfold dH;exact go (I.list_inj (sF.seq h1) (sF.seq h2)) q1 q2 hc
structure SX (A:Around) (s:Shared) (v u:Value) (b:Bool):Prop where
 eq:SeqAt.EqAt A s v u b
 rc:SeqAt.RcAt A s v u b
 ne:SeqAt.RcNeAt A s v u (!b)
theorem zoq{n m:Nat}(e:Nat ->Bool)(h:n=m):((List.range (min n m)).all e&&n==m)=(List.range n).all e:=by
 subst h;simp
def Kn(s:Shared):D ->Value ->Prop
 | .non,v=>v= .none
 | .bl b,v=>v= .bool b
 | .int i,v=>∃t,v= .int i t
 | .str x,v=>∃t,v= .str x t
 | .tup _,v=>∃l,v= .ref l/\∃is,IsTup s.heap l is
 | .lst _,v=>∃l,v= .ref l/\∃is,s.heap.IsList l is
 | _,_=>True
theorem kn(I:Inv X pins σ H s)(sF:Same F H){d:D}{x:V}{v:Value}(r:Rep X.K F d x)(rv:RelV x v):Kn s d v:=by
 cases d<;>simp only [Rep] at r<;>unfold Kn<;>try trivial
 case non=>subst r;cases rv;rfl
 case bl=>subst r;cases rv;rfl
 case int=>subst r;obtain⟨t,rfl⟩:=rv;exact⟨t,rfl⟩
 case str=>subst r;obtain⟨t,rfl⟩:=rv;exact⟨t,rfl⟩
 case tup=>
  obtain⟨l,vs,rfl,h,_⟩:=r;cases rv;obtain⟨is,_,k,_⟩:=I.tuple (jy sF h);exact⟨l,rfl,_,k⟩
 case lst=>
  obtain⟨l,vs,rfl,h,_⟩:=r;cases rv;obtain⟨is,_,k,_⟩:=I.list (sF.seq h);exact⟨l,rfl,_,k.isList⟩
theorem S5{A:Around}{d d' :D}{v u:Value}(hu0:A.units<cLine)(hf:pB d d' =true)(a:Kn s d v)(b:Kn s d' u):SX A s v u (dH d d'):=by
 cases d with
 | non=>
  obtain rfl:=a;cases d' with
  | non=>obtain rfl:=b;exact⟨.same _,.none_none,.none_none⟩
  | bl _=>obtain rfl:=b;exact⟨.none_bool _,.none_bool _,.none_bool _⟩
  | int _=>obtain⟨_,rfl⟩:=b;exact⟨.none_int _ _,.none_int _ _,.none_int _ _⟩
  | str _=>obtain⟨_,rfl⟩:=b;exact⟨.none_str _ _,.none_str _ _,.none_str _ _⟩
  | tup _=>obtain⟨_,rfl,_,k2⟩:=b;exact⟨.none_tuple k2 hu0,.none_tuple k2 hu0,.none_tuple k2 hu0⟩
  | lst _=>obtain⟨_,rfl,_,k2⟩:=b;exact⟨.none_list k2 hu0,.none_list k2 hu0,.none_list k2 hu0⟩
  | _=>cases hf
 | bl _=>
  obtain rfl:=a;cases d' with
  | non=>obtain rfl:=b;exact⟨.bool_none _,.bool_none _,.bool_none _⟩
  | bl _=>obtain rfl:=b;exact⟨.bool_bool _ _,.bool_bool _ _,.bool_bool _ _⟩
  | str _=>obtain⟨_,rfl⟩:=b;exact⟨.bool_str _ _ _,.bool_str _ _ _,.bool_str _ _ _⟩
  | tup _=>obtain⟨_,rfl,_,k2⟩:=b;exact⟨.bool_tuple _ k2 hu0,.bool_tuple _ k2 hu0,.bool_tuple _ k2 hu0⟩
  | lst _=>obtain⟨_,rfl,_,k2⟩:=b;exact⟨.bool_list _ k2 hu0,.bool_list _ k2 hu0,.bool_list _ k2 hu0⟩
  | _=>cases hf
 | int _=>
  obtain⟨_,rfl⟩:=a;cases d' with
  | non=>obtain rfl:=b;exact⟨.int_none _ _,.int_none _ _,.int_none _ _⟩
  | int _=>obtain⟨_,rfl⟩:=b;exact⟨.int_int _ _ _ _,.int_int _ _ _ _,.int_int _ _ _ _⟩
  | str _=>obtain⟨_,rfl⟩:=b;exact⟨.int_str _ _ _ _,.int_str _ _ _ _,.int_str _ _ _ _⟩
  | tup _=>obtain⟨_,rfl,_,k2⟩:=b;exact⟨.int_tuple _ _ k2 hu0,.int_tuple _ _ k2 hu0,.int_tuple _ _ k2 hu0⟩
  | lst _=>obtain⟨_,rfl,_,k2⟩:=b;exact⟨.int_list _ _ k2 hu0,.int_list _ _ k2 hu0,.int_list _ _ k2 hu0⟩
  | _=>cases hf
 | str _=>
  obtain⟨_,rfl⟩:=a;cases d' with
  | non=>obtain rfl:=b;exact⟨.str_none _ _,.str_none _ _,.str_none _ _⟩
  | bl _=>obtain rfl:=b;exact⟨.str_bool _ _ _,.str_bool _ _ _,.str_bool _ _ _⟩
  | int _=>obtain⟨_,rfl⟩:=b;exact⟨.str_int _ _ _ _,.str_int _ _ _ _,.str_int _ _ _ _⟩
  | str _=>obtain⟨_,rfl⟩:=b;exact⟨.str_str _ _ _ _,.str_str _ _ _ _,.str_str _ _ _ _⟩
  | tup _=>obtain⟨_,rfl,_,k2⟩:=b;exact⟨.str_tuple _ _ k2 hu0,.str_tuple _ _ k2 hu0,.str_tuple _ _ k2 hu0⟩
  | lst _=>obtain⟨_,rfl,_,k2⟩:=b;exact⟨.str_list _ _ k2 hu0,.str_list _ _ k2 hu0,.str_list _ _ k2 hu0⟩
  | _=>cases hf
 | tup _=>
  obtain⟨_,rfl,_,k1⟩:=a;cases d' with
  | non=>obtain rfl:=b;exact⟨.tuple_none k1 hu0,.tuple_none k1 hu0,.tuple_none k1 hu0⟩
  | bl _=>obtain rfl:=b;exact⟨.tuple_bool _ k1 hu0,.tuple_bool _ k1 hu0,.tuple_bool _ k1 hu0⟩
  | int _=>obtain⟨_,rfl⟩:=b;exact⟨.tuple_int _ _ k1 hu0,.tuple_int _ _ k1 hu0,.tuple_int _ _ k1 hu0⟩
  | str _=>obtain⟨_,rfl⟩:=b;exact⟨.tuple_str _ _ k1 hu0,.tuple_str _ _ k1 hu0,.tuple_str _ _ k1 hu0⟩
  | lst _=>obtain⟨_,rfl,_,k2⟩:=b;exact⟨.tuple_list k1 k2 hu0,.tuple_list k1 k2 hu0,.tuple_list k1 k2 hu0⟩
  | _=>cases hf
 | lst _=>
  obtain⟨_,rfl,_,k1⟩:=a;cases d' with
  | non=>obtain rfl:=b;exact⟨.list_none k1 hu0,.list_none k1 hu0,.list_none k1 hu0⟩
  | bl _=>obtain rfl:=b;exact⟨.list_bool _ k1 hu0,.list_bool _ k1 hu0,.list_bool _ k1 hu0⟩
  | int _=>obtain⟨_,rfl⟩:=b;exact⟨.list_int _ _ k1 hu0,.list_int _ _ k1 hu0,.list_int _ _ k1 hu0⟩
  | str _=>obtain⟨_,rfl⟩:=b;exact⟨.list_str _ _ k1 hu0,.list_str _ _ k1 hu0,.list_str _ _ k1 hu0⟩
  | tup _=>obtain⟨_,rfl,_,k2⟩:=b;exact⟨.list_tuple k1 k2 hu0,.list_tuple k1 k2 hu0,.list_tuple k1 k2 hu0⟩
  | _=>cases hf
 | _=>cases hf
theorem Bo(I:Inv X pins σ H s)(sF:Same F H):∀(n:Nat) (A:Around) (d d' :D) (x y:V) (v u:Value),A.units+n+1<cLine ->fV n d d' ->Rep X.K F d x ->Rep X.K F d' y ->RelV x v ->RelV y u ->SX A s v u (dH d d'):=by
 intro n;induction n with
 | zero=>
  intro A d d' x y v u hu hc r r' rv ru;rcases Gf hc with h | ⟨_,_,_,h,_⟩ | ⟨_,_,_,h,_⟩
  ·exact S5 (by omega) h (kn I sF r rv) (kn I sF r' ru)
  ·cases h
  ·cases h
 | succ n ih=>
  intro A d d' x y v u hu hc0 r r' rv ru;have hu0:A.units<cLine:=by omega
  rcases Gf hc0 with h | ⟨_,xs,ys,h,rfl,rfl,hc⟩ | ⟨_,xs,ys,h,rfl,rfl,hc⟩
  ·exact S5 hu0 h (kn I sF r rv) (kn I sF r' ru)
  ·cases h;simp only [Rep] at r r';obtain⟨l1,vs,rfl,h1,q1⟩:=r;obtain⟨l2,us,rfl,h2,q2⟩:=r';cases rv;cases ru;obtain⟨is1,p1,k1,_⟩:=I.tuple (jy sF h1);obtain⟨is2,p2,k2,_⟩:=I.tuple (jy sF h2);have el1:is1.length=xs.length:=by rw[<- p1.length,fY q1]
   have el2:is2.length=ys.length:=by rw[<- p2.length,fY q2]
   have at_:∀j (g1:j<is1.toArray.size) (g2:j<is2.toArray.size),SeqAt.EqAt A.in1 s is1.toArray[j] is2.toArray[j] ((fun j=>match xs[j]?,ys[j]? with | some a,some b=>dH a b | _,_=>false) j):=by
    intro j g1 g2;have Kv :j<xs.length:=by simpa [el1] using g1
    have Kw :j<ys.length:=by simpa [el2] using g2
    have e1:xs[j]?=some xs[j]:=by simp [Kv]
    have e2:ys[j]?=some ys[j]:=by simp [Kw]
    obtain⟨w1,f1,m1⟩:=o9 q1 e1;obtain⟨w2,f2,m2⟩:=o9 q2 e2;obtain⟨z1,c1,b1⟩:=p1.get f1;obtain⟨z2,c2,b2⟩:=p2.get f2;have y1:is1.toArray[j]=z1:=by simpa [List.getElem?_eq_some_iff] using (zW.mp c1).2
    have y2:is2.toArray[j]=z2:=by simpa [List.getElem?_eq_some_iff] using (zW.mp c2).2
    simp only [e1,e2];rw[y1,y2];exact(ih A.in1 _ _ w1 w2 z1 z2 (by show A.units+1+n+1<cLine;omega) (hc j _ _ e1 e2) m1 m2 b1 b2).eq
   unfold dH;have same:l1=l2 ->bV xs ys=true:=fun e=>by
    have z:=SQ I sF (n+1) (.tup xs) (.tup ys) (.ref l1) (by simp only [fV];exact hc) (by simp only [Rep];exact⟨l1,vs,rfl,h1,q1⟩) (by simp only [Rep];exact⟨l2,us,by rw[e],h2,q2⟩)
    unfold dH at z;exact z
   have ev:((List.range (min is1.toArray.size is2.toArray.size)).all (fun j=>match xs[j]?,ys[j]? with | some a,some b=>dH a b | _,_=>false)&&is1.toArray.size==is2.toArray.size)=bV xs ys:=by
    have s1:is1.toArray.size=xs.length:=by simp [el1]
    have s2:is2.toArray.size=ys.length:=by simp [el2]
    rw[s1,s2];by_cases hl:xs.length=ys.length
    ·rw[zoq _ hl];exact Ks hl _ fun i a b z1 z2=>by simp only [z1,z2]
    ·rw[Ku hl,beq_false_of_ne hl,Bool.and_false]
   have rc:=SeqAt.RcAt.tuples k1 k2 hu0 at_;have rn:=SeqAt.RcNeAt.tuples k1 k2 hu0 at_;rw[ev] at rc rn;refine⟨?_,rc,rn⟩;by_cases e:l1=l2
   ·rw[same e];subst e;exact SeqAt.EqAt.same _
   ·exact SeqAt.EqAt.of_refs e rc
  ·cases h;simp only [Rep] at r r';obtain⟨l1,vs,rfl,h1,q1⟩:=r;obtain⟨l2,us,rfl,h2,q2⟩:=r';cases rv;cases ru;obtain⟨is1,p1,k1',_⟩:=I.list (sF.seq h1);obtain⟨is2,p2,k2',_⟩:=I.list (sF.seq h2);have k1:=k1'.isList;have k2:=k2'.isList;have el1:is1.length=xs.length:=by rw[<- p1.length,fY q1]
   have el2:is2.length=ys.length:=by rw[<- p2.length,fY q2]
   have at_:∀j (g1:j<is1.toArray.size) (g2:j<is2.toArray.size),SeqAt.EqAt A.in1 s is1.toArray[j] is2.toArray[j] ((fun j=>match xs[j]?,ys[j]? with | some a,some b=>dH a b | _,_=>false) j):=by
    intro j g1 g2;have Kv :j<xs.length:=by simpa [el1] using g1
    have Kw :j<ys.length:=by simpa [el2] using g2
    have e1:xs[j]?=some xs[j]:=by simp [Kv]
    have e2:ys[j]?=some ys[j]:=by simp [Kw]
    obtain⟨w1,f1,m1⟩:=o9 q1 e1;obtain⟨w2,f2,m2⟩:=o9 q2 e2;obtain⟨z1,c1,b1⟩:=p1.get f1;obtain⟨z2,c2,b2⟩:=p2.get f2;have y1:is1.toArray[j]=z1:=by simpa [List.getElem?_eq_some_iff] using (zW.mp c1).2
    have y2:is2.toArray[j]=z2:=by simpa [List.getElem?_eq_some_iff] using (zW.mp c2).2
    simp only [e1,e2];rw[y1,y2];exact(ih A.in1 _ _ w1 w2 z1 z2 (by show A.units+1+n+1<cLine;omega) (hc j _ _ e1 e2) m1 m2 b1 b2).eq
   unfold dH;have same:l1=l2 ->bV xs ys=true:=fun e=>by
    have z:=SQ I sF (n+1) (.lst xs) (.lst ys) (.ref l1) (by simp only [fV];exact hc) (by simp only [Rep];exact⟨l1,vs,rfl,h1,q1⟩) (by simp only [Rep];exact⟨l2,us,by rw[e],h2,q2⟩)
    unfold dH at z;exact z
   have rcn:SeqAt.RcAt A s (.ref l1) (.ref l2) (bV xs ys)/\SeqAt.RcNeAt A s (.ref l1) (.ref l2) (!bV xs ys):=by
    by_cases hl:xs.length=ys.length
    ·have ev:(List.range is1.toArray.size).all (fun j=>match xs[j]?,ys[j]? with | some a,some b=>dH a b | _,_=>false)=bV xs ys:=by
      have s1:is1.toArray.size=xs.length:=by simp [el1]
      rw[s1];exact Ks hl _ fun i a b z1 z2=>by simp only [z1,z2]
     have hz:is1.toArray.size=is2.toArray.size:=by simp [el1,el2,hl]
     have rc:=SeqAt.RcAt.lists k1 k2 hz hu0 at_;have rn:=SeqAt.RcNeAt.lists k1 k2 hz hu0 at_;rw[ev] at rc rn;exact⟨rc,rn⟩
    ·have hz:(is1.toArray.size !=is2.toArray.size)=true:=by simp [el1,el2,hl]
     rw[Ku hl];exact⟨SeqAt.RcAt.lists_lengths k1 k2 hz hu0,SeqAt.RcNeAt.lists_lengths k1 k2 hz hu0⟩
   obtain⟨rc,rn⟩:=rcn;refine⟨?_,rc,rn⟩;by_cases e:l1=l2
   ·rw[same e];subst e;exact SeqAt.EqAt.same _
   ·exact SeqAt.EqAt.of_refs e rc
def pU:D ->D ->(D ->Prop) ->Prop:=fun x y P=>fV 20 x y/\P (.bl (dH x y))
def qM:D ->D ->(D ->Prop) ->Prop:=fun x y P=>fV 20 x y/\P (.bl (!dH x y))
theorem kJ(hu:X.A.units+21<cLine):dJ X (compareOp .Eq) (jf X.K pU):=by
 rintro pins s σ H x y u w Q I rx ry ⟨F,d1,d2,P,sF,r1,r2,h,k⟩;exact(Bo I sF 20 X.A d1 d2 x y u w hu h.1 r1 r2 rx ry).rc _ _ _ _ ⟨.bl _,H,I,rfl,k _ _ F H (Gr.refl sF) (by unfold Rep;rfl) h.2⟩
theorem mz(hu:X.A.units+21<cLine):dJ X (compareOp .NotEq) (jf X.K qM):=by
 rintro pins s σ H x y u w Q I rx ry ⟨F,d1,d2,P,sF,r1,r2,h,k⟩;exact(Bo I sF 20 X.A d1 d2 x y u w hu h.1 r1 r2 rx ry).ne _ _ _ _ ⟨.bl _,H,I,rfl,k _ _ F H (Gr.refl sF) (by unfold Rep;rfl) h.2⟩
end
def cZ(K:W.Frag)(C D:Addr):Bool:=match K.lookup C with
 | some ⟨_,_,.cls cd,_⟩=>cd.mro.contains (.ref D)
 | _=>false
theorem zrb{K:W.Frag}{h:Heap}{C:Addr}(X:K.In h)(q:jA K C)(D:Addr){nm qn:Str}{N:Addr}{bs bm:List Value}{hdct:Bool}{sn:List Str}{sub:List Value}{ab:Bool}{col:Option Bool}{dd:Option Addr}{k0 k1 k2 k3 k5:Option Value}{newId:String}
  (e:h.get? C=some (excClassObj nm qn C N bs bm hdct sn sub ab col dd k0 k1 k2 k3 k5 newId)):(Value.ref C::bm).contains (.ref D)=cZ K C D:=by
 unfold jA iR at q;split at q
 ·rename_i ho;have z:=X _ _ ho;rw[e] at z;unfold cZ;rw[ho];unfold excClassObj at z;cases z
  rfl
 ·cases q
section
variable{M:Model}{A:Around}{E:bf}{h:Heap}{g:Array GenState}{d:Drawn}{t:Nat}{os:OsState}
 {nm q nm' q' :Str} {C N C' N' :Addr} {bs bm bs' bm' :List Value} {hdct vh :Bool} {sn S6 :List Str} {sub sub' :List Value} {ab S7 :Bool} {col col' :Option Bool} {dd S8 :Option Addr} {k0 k1 k2 k3 k5 j0 j1 j2 j3 j5:Option Value} {newId newId' :String}
theorem zk4(hC:h.get? C=some (excClassObj nm q C N bs bm hdct sn sub ab col dd k0 k1 k2 k3 k5 newId))(hD:h.get? C' =some (excClassObj nm' q' C' N' bs' bm' vh S6 sub' S7 col' S8 j0 j1 j2 j3 j5 newId'))
  (he:h.get? a=some oe) (hcls:oe.cls= .ref C) (hbase:bm'.contains (.type "BaseException")=true) (hq:Q ((Value.ref C::bm).contains (.ref C')) ⟨h,g,d,t,os⟩):wpAny M A (excMatches (.ref a) (.ref C')) Q E ⟨h,g,d,t,os⟩:=by
 have cb:(Value.ref C' ::bm').contains (.type "BaseException")=true:=by rw[List.contains_cons,hbase,Bool.or_true]
 have nt:=tc_notTuple;generalize hk:(Value.ref C::bm).contains (.ref C')=k at hq;unfold excMatches
 repeat (first | (with_reducible refine wpAny_loadPart_at he ?_;rw[hcls]) | with_reducible refine wpAny_loadPart_at hD ?_ | (with_reducible refine wpAny_isSubtype_exc hD ?_;rw[cb]) | (with_reducible refine wpAny_isSubtype_exc hC ?_;rw[hk]) | wp_step)
 cases k<;>(wp_walk;exact hq)
end
abbrev _root_.L2.Cx.hand(X:Cx)(a:Addr):Cx:={X with A:=X.A.mark (some (.ref a)),calm:=false}
section
variable{X:Cx}{pins:aV}{σ:St}{H:Hp}{s:Shared}{a:Addr}
theorem zuv(ok:X.Ok)(a:Addr):(X.hand a).Ok:=
 ⟨ok.mod,ok.kind,ok.glob,ok.blt,ok.above,ok.inj,ok.has,ok.cab,fun z=>absurd z (by simp),ok.frames,ok.stk,ok.Eo,ok.bs,ok.tW,ok.qu,ok.qw,ok.funs,ok.uW⟩
theorem S9(I:Inv X pins σ H s)(a:Addr):Inv (X.hand a) pins σ H s:=⟨zuv I.ok a,I.os,I.bare,I.base,I.loc,I.cell,I.free,I.freeC,I.pin,I.hok,I.len⟩
theorem Ky(ok:X.Ok)(z:Az):(X.wsh z).Ok:=⟨ok.mod,ok.kind,ok.glob,ok.blt,ok.above,ok.inj,ok.has,ok.cab,ok.hd,ok.frames,ok.stk,ok.Eo,ok.bs,ok.tW,ok.qu,ok.qw,ok.funs,ok.uW⟩
theorem zwk(I:Inv (X.wsh z) pins σ H s):Inv (X.wsh ⟨xe,z.pn++pins⟩) [] σ H s:=
 ⟨Ky I.ok _,I.os,I.bare,I.base,I.loc,I.cell,I.free,I.freeC,fun p hp=>I.pin p (by simpa using hp),I.hok,I.len⟩
theorem Bp(I:Inv (X.wsh ⟨xe,z.pn++pins⟩) je σ H s):Inv (X.wsh z) pins σ H s:=
 ⟨Ky I.ok _,I.os,I.bare,I.base,I.loc,I.cell,I.free,I.freeC,fun p hp=>I.pin p (zQ _ hp),I.hok,I.len⟩
theorem zyt{z:Az}{xe:bf}{D:Ends}{f:Flow}{je :aV}(h:SP (X.wsh ⟨xe,z.pn++pins⟩) je D f s):SP (X.wsh z) pins D f s:=by
 cases f with
 | next=>obtain⟨σ',H',I,q⟩:=h;exact⟨σ',H',Bp I,q⟩
 | brk=>obtain⟨σ',H',I,q⟩:=h;exact⟨σ',H',Bp I,q⟩
 | cont=>obtain⟨σ',H',I,q⟩:=h;exact⟨σ',H',Bp I,q⟩
 | ret u=>obtain⟨v,σ',H',I,r,q⟩:=h;exact⟨v,σ',H',Bp I,r,q⟩
theorem Gg(ok:(X.wsh z).Ok)(I:Inv ((X.hand a).wsh ⟨xe,z.pn⟩) pins σ H s):Inv (X.wsh z) pins σ H s:=
 ⟨ok,I.os,I.bare,I.base,I.loc,I.cell,I.free,I.freeC,I.pin,I.hok,I.len⟩
theorem zqz{z:Az}{xe:bf}{D:Ends}{f:Flow}(ok:(X.wsh z).Ok)(h:SP ((X.hand a).wsh ⟨xe,z.pn⟩) pins D f s):SP (X.wsh z) pins D f s:=by
 cases f with
 | next=>obtain⟨σ',H',I,q⟩:=h;exact⟨σ',H',Gg ok I,q⟩
 | brk=>obtain⟨σ',H',I,q⟩:=h;exact⟨σ',H',Gg ok I,q⟩
 | cont=>obtain⟨σ',H',I,q⟩:=h;exact⟨σ',H',Gg ok I,q⟩
 | ret u=>obtain⟨v,σ',H',I,r,q⟩:=h;exact⟨v,σ',H',Gg ok I,r,q⟩
end
def dX:XW:=fun _ _=>False
theorem j8.base{K:W.Frag}{F0 H0 F H:Hp}{D2:iT}{D:Ends}(k:j8 K F0 H0 F D2 D)(g:Gr F0 H0 F H):j8 K F H0 F D2 D:=
 ⟨fun Γ F' H' σ R s h=>k.nx Γ F' H' σ (R.unbase g) s h,fun Γ F' H' σ R s h=>k.bk Γ F' H' σ (R.unbase g) s h,fun Γ F' H' σ R s h=>k.ct Γ F' H' σ (R.unbase g) s h,fun d v F' H' gr r h=>k.rt d v F' H' (g.unbase gr) r h,fun d v F' H' gr r h=>k.rf d v F' H' (g.unbase gr) (JV (RW g.f) d v r) h,fun t v as F' H' gr nd hn r h=>k.rT t v as F' H' (g.unbase gr) nd hn r h,fun d v Γ F' H' σ R r h=>k.rm d v Γ F' H' σ (R.unbase g) r h⟩
section
variable{X:Cx}{pins:aV}{σ:St}{H:Hp}{s:Shared}
theorem pW:Ctx (X.wsh ⟨fun _ _=>False,pn⟩) F0 H0 dX:=
 ⟨fun _ _ _ _ _ _ _ _ _ _ h=>by obtain⟨_,_,_,_,_,_,_,_,_,_,_,_,_,_,_,_,_,_,_,_,h⟩:=h;exact h.elim,PassesOwn.never⟩
theorem zon(I:Inv X pins σ H s)(hN:X.N.Nodup)(hi:X.N[i]?=some n)(hk:X.env.scope.names.lookup n=some .local)(hσ:σ[i]?=some (some v))
  (h:∀s',Inv X pins (σ.set i none) H s' ->Q () s'):wpAny M A (unbindName X.env n) Q E s:=by
 obtain⟨m,hn,hl⟩:=id I.loc;obtain⟨u,r,l⟩:=hl i n v hi hσ (.inl hk);have hm:m n=some u:=by
  rcases l with ⟨_,e⟩ | ⟨k,_⟩
  ·exact e
  ·have k' :X.env.scope.names.lookup n=some .cell\/X.env.scope.names.lookup n=some .free:=k;rw[hk] at k';rcases k' with k' | k' <;>cases k'
 have hcls:(X.env.scope.kind== .class || (X.env.scope.kind== .module&&X.env.locals !=X.env.globals))=false:=by rw[I.ok.kind];rfl
 have Er:i<σ.length:=(zW.mp hσ).1;have cne:=I.cne;refine wpAny_unbindName_local hk hn hm hcls fun h' u' hn' hs=> ?_;have old:∀b o,X.s₀.heap.get? b=some o ->b≠X.env.locals:=fun b o e=>zM (zN (zK e) I.ok.above);refine h _ ⟨I.ok,I.os,I.bare,⟨fun b o e n hb hx=> ?_,fun b o e n hb hx=> ?_,I.base.free,fun b o e hx=> ?_,I.base.tups,I.base.fW,I.base.gG⟩,⟨_,hn',fun j y v' e1 e2 e3=> ?_⟩,fun y c e=> ?_,I.free,I.freeC,fun p hp=> ?_,fun b ob e=> ?_,by simpa using I.len⟩
 ·exact(hs.2 b (old b o e)).trans (I.base.keep b o e n hb hx)
 ·obtain⟨sl,e1⟩:=I.base.slot b o e n hb hx;exact⟨sl,(hs.2 b (old b o e)).trans e1⟩
 ·obtain⟨o',e1⟩:=I.base.there b o e hx;exact⟨o',(hs.2 b (old b o e)).trans e1⟩
 ·have hj:i≠j:=fun z=>by
   subst z;rw[List.getElem?_set_self Er] at e2;cases e2
  rw[List.getElem?_set_ne hj] at e2;obtain⟨w,r',q⟩:=hl j y v' e1 e2 e3;refine⟨w,r',?_⟩;rcases q with ⟨k,e⟩ | ⟨k,c,e,z⟩
  ·refine .inl ⟨k,?_⟩;have:y≠n:=fun e=>hj (HX hN hi (e ▸ e1));simp [this,e]
  ·exact .inr ⟨k,c,e,z.sameBut hs (cne y c e)⟩
 ·obtain⟨w',z⟩:=I.cell y c e;exact⟨w',z.sameBut hs (cne y c e)⟩
 ·obtain⟨e,n,ne,nf,d⟩:=I.pin p hp;exact⟨(hs.2 p.1 ne).trans e,n,ne,nf,d⟩
 ·refine(I.hok b ob e).stay (fun c w' hc q=>(hs.2 c ?_).trans q) (fun _ q=>q) fun _ _ q=>q;rintro rfl;rcases hc with z | hc
  ·rw[<- z,I.free] at e;cases e
  ·rw[I.free] at hc;cases hc
end
def Kz(K:W.Frag)(Cd:Addr)(tb th:aq):aq:=fun D Γ _=>tb D Γ fun Γ1 Cv=>∃C,Cv.cls=C/\jA K C/\cZ K C Cd=true/\th D Γ1 dX
def Bq(K:W.Frag)(Cd:Addr)(i:Nat)(tb th:aq):aq:=fun D Γ _=>tb D Γ fun Γ1 Cv=>∃C,Cv.cls=C/\jA K C/\cZ K C Cd=true/\
 th {nx:=fun Γ' =>D.nx (Γ'.set i .no),rt:=D.rt,bk:=fun Γ' =>D.bk (Γ'.set i .no),ct:=fun Γ' =>D.ct (Γ'.set i .no)} (Γ1.set i (.pu (.exc C))) dX
section
variable{X:Cx}{F0 H0:Hp}{pos np hp:Pos}{x n:Str}{Cd:Addr}{body suite:List Stmt}{b₀:Stmt}{tb th:aq}
end
def cU(g:D ->(D ->Prop) ->Prop)(ta:aB):aB:=fun Γ P E=>ta Γ (fun d Γ1=>g d fun d' =>P d' Γ1) E
def jr:D ->(D ->Prop) ->Prop:=fun x P=>match x with | .int i=>P (.int (-i)) | _=>False
def kO(K:W.Frag)(g:List D ->(D ->Prop) ->Prop):List V ->Hp ->VK ->Prop:=fun vs H Q=>∃F ds P,Same F H/\ak K F ds vs/\g ds P/\∀d z F' H',Gr F H F' H' ->Rep K F' d z ->P d ->Q z H'
def iB(g:List D ->(D ->Prop) ->Prop)(t:aO):aB:=fun Γ P E=>t Γ (fun ds Γ1=>g ds fun d=>P d Γ1) E
def cu:D ->D ->(D ->Prop) ->Prop:=fun x y P=>match x,y with
 | .lst xs,.int i=>∃d,fJ xs i=some d/\P d
 | .tup xs,.int i=>∃d,fJ xs i=some d/\P d
 | .str z,.int i=>∃c,z.length<=sizeLine/\fJ z.cps.toList i=some c/\P (.str ⟨#[c]⟩)
 | _,_=>False
theorem KC{K:W.Frag}{F:Hp}{ds:List D}{vs:List V}{i:Int}{d:D}(r:ak K F ds vs)(h:fJ ds i=some d):∃v,fJ vs i=some v/\Rep K F d v:=by
 unfold fJ at h⊢;rw[<- fY r];cases q:nW ds.length i with
 | none=>rw[q] at h;cases h
 | some j=>
  rw[q] at h;exact o9 r h
section
variable{X:Cx}{F0 H0:Hp}{a b e:Expr}{es:List Expr}{pos p:Pos}{ta tb te:aB}{t:aO}{x:Str}
theorem tM(ha:QE X F0 H0 a ta):QE X F0 H0 (.UnaryOp .USub a pos) (cU jr ta):=fun z E cx=>
 jB (QL QV (ha z E cx)) fun σ H Q hq1=>by obtain⟨F,Γ,P,R,h,k⟩:=hq1;exact⟨F,Γ,_,R,h,fun d Γ1 F1 H1 v R1 s1 r q=>by
  cases d with
  | int i=>
   unfold Rep at r;exact⟨i,r,k _ _ _ _ _ R1 s1 (by unfold Rep;rfl) q⟩
  | _=>exact False.elim q⟩
theorem Tc{K:W.Frag}{g:List D ->(D ->Prop) ->Prop}{E:XW}{σ:St}{H:Hp}{Q:VK}(h:qH K F0 H0 (iB g t) E σ H Q):Ag (kO K g) (Ay K F0 H0 t E) σ H Q:=by
 obtain⟨F,Γ,P,R,h,k⟩:=h;exact⟨F,Γ,_,R,h,fun ds Γ1 F1 H1 vs R1 s1 r1 h1=>⟨F1,ds,_,R1.g,r1,h1,fun d z F' H' gr rz hp=>k d Γ1 F' H' z (R1.grow gr) (s1.trans gr.f) rz hp⟩⟩
theorem jD{id:String}{g:List D ->(D ->Prop) ->Prop}(hc:∀z,bK (X.wsh z) (.builtin id) (kO X.K g))(hg:Gl X x)(hm:X.mg x=none)(hv:bootBuiltins x=some (.builtin id))(ha:QA X F0 H0 (e::es) t)(hn:x≠ "__name__" :=by decide)(hdb:(x==("__debug__" :Str))=false:=by decide)
  (he:starEach (e::es) X.env=(false,eval e X.env)::starEach es X.env:=by rfl) (hpl:(backTo pos (starEach es X.env)).any (·.1)=false:=by rfl):QE X F0 H0 (.Call (.Name x p) (e::es) [] pos) (iB g t):=fun z E cx=>
 jB (Jq (X:=X.wsh z) (hc z) hg hm hv (ha z E cx) hn hdb he hpl) fun _ _ _ h=>Tc h
theorem cH(ha:QE X F0 H0 a ta)(hb:QE X F0 H0 b tb)(hs:Fe b):QE X F0 H0 (.Subscript a b pos) (cB cu ta tb):=fun z E cx=>
 jB (Jx (X:=X.wsh z) (r:=jf X.K cu) (by
  rintro value slice pins s σ H x y v u Q I rx ry ⟨F,d1,d2,P,sF,r1,r2,h,k⟩ hs;unfold cu at h;split at h
  ·unfold Rep at r1 r2;obtain⟨p,vs,rfl,hq,rs⟩:=r1;subst r2;obtain⟨d,e,hp⟩:=h;obtain⟨w,ew,lR⟩:=KC rs e;exact Rm value slice pins s σ H _ _ v u Q I rx ry ⟨p,vs,_,w,rfl,rfl,sF.seq hq,ew,k _ _ F H (Gr.refl sF) lR hp⟩ hs
  ·unfold Rep at r1 r2;obtain⟨p,vs,rfl,hq,rs⟩:=r1;subst r2;obtain⟨d,e,hp⟩:=h;obtain⟨w,ew,lR⟩:=KC rs e;exact Rn value slice pins s σ H _ _ v u Q I rx ry ⟨p,vs,_,w,rfl,rfl,jy sF hq,ew,k _ _ F H (Gr.refl sF) lR hp⟩ hs
  ·unfold Rep at r1 r2;subst r1 r2;obtain⟨c,hz,e,hp⟩:=h;exact zxq value slice pins s σ H _ _ v u Q I rx ry ⟨_,_,c,rfl,rfl,hz,e,k _ _ F H (Gr.refl sF) (by unfold Rep;rfl) hp⟩ hs
  ·exact h.elim) (ha z E cx) (hb z E cx) hs) fun _ _ _ h=>Fw h
end
def Gh:List D ->(D ->Prop) ->Prop:=fun ds P=>match ds with | [.int i]=>P (.int (if i<0 then -i else i)) | _=>False
def lu:List D ->(D ->Prop) ->Prop:=fun ds P=>match ds with | [.lst xs]=>P (.int xs.length) | [.tup xs]=>P (.int xs.length) | [.str z]=>z.length<=sizeLine/\P (.int z.length) | _=>False
def Br:List D ->(D ->Prop) ->Prop:=fun ds P=>match ds with | [.int i,.int j]=>P (.int (if j>i then j else i)) | _=>False
def Gi:List D ->(D ->Prop) ->Prop:=fun ds P=>match ds with | [.int i,.int j]=>P (.int (if j<i then j else i)) | _=>False
section
variable{X:Cx}
theorem zy8:bK X (.builtin "abs") (kO X.K Gh):=by
 rintro pins s σ H xs us Q I r ⟨F,ds,P,sF,rs,h,k⟩;unfold Gh at h;split at h
 ·unfold ak ak Rep at rs;obtain⟨v,_,rfl,rfl,rfl⟩:=rs;exact ZG pins s σ H _ us Q I r ⟨_,rfl,k _ _ F H (Gr.refl sF) (by unfold Rep;rfl) h⟩
 ·exact h.elim
theorem mC:bK X (.builtin "len") (kO X.K lu):=by
 rintro pins s σ H xs us Q I r ⟨F,ds,P,sF,rs,h,k⟩;unfold lu at h;split at h
 ·unfold ak ak Rep at rs;obtain⟨v,_,rfl,⟨p,vs,rfl,hq,rs⟩,rfl⟩:=rs;rw[fY rs] at h;exact Rt pins s σ H _ us Q I r ⟨p,vs,rfl,.inl (sF.seq hq),k _ _ F H (Gr.refl sF) (by unfold Rep;rfl) h⟩
 ·unfold ak ak Rep at rs;obtain⟨v,_,rfl,⟨p,vs,rfl,hq,rs⟩,rfl⟩:=rs;rw[fY rs] at h;exact Rt pins s σ H _ us Q I r ⟨p,vs,rfl,.inr (jy sF hq),k _ _ F H (Gr.refl sF) (by unfold Rep;rfl) h⟩
 ·unfold ak ak Rep at rs;obtain⟨v,_,rfl,rfl,rfl⟩:=rs;exact zjf pins s σ H _ us Q I r ⟨_,rfl,h.1,k _ _ F H (Gr.refl sF) (by unfold Rep;rfl) h.2⟩
 ·exact h.elim
theorem Td(hc:X.calm=true):bK X (.builtin "max") (kO X.K Br):=by
 rintro pins s σ H xs us Q I r ⟨F,ds,P,sF,rs,h,k⟩;unfold Br at h;split at h
 ·unfold ak ak ak Rep at rs;obtain⟨v,_,rfl,rfl,v2,_,rfl,rfl,rfl⟩:=rs;exact ZJ hc pins s σ H _ us Q I r ⟨_,_,rfl,k _ _ F H (Gr.refl sF) (by unfold Rep;rfl) h⟩
 ·exact h.elim
theorem zyy(hc:X.calm=true):bK X (.builtin "min") (kO X.K Gi):=by
 rintro pins s σ H xs us Q I r ⟨F,ds,P,sF,rs,h,k⟩;unfold Gi at h;split at h
 ·unfold ak ak ak Rep at rs;obtain⟨v,_,rfl,rfl,v2,_,rfl,rfl,rfl⟩:=rs;exact ZK hc pins s σ H _ us Q I r ⟨_,_,rfl,k _ _ F H (Gr.refl sF) (by unfold Rep;rfl) h⟩
 ·exact h.elim
end
def Gj:D ->Option String
 | .non=>some "NoneType" | .bl _=>some "bool" | .int _=>some "int" | .str _=>some "str" | .tup _=>some "tuple" | .lst _=>some "list" | .exc _=>none | .ptr _=>none | .obj _ _ _=>none | .fB _ _=>none | .fU _ _=>none | .n6 _ _=>some "dict"
def oE(d:D)(T:String):Option Bool:=(Gj d).bind fun S=>W.kitOne [] (.type S) (.type T)
def uF(T:String)(ta:aB):aB:=fun Γ P E=>ta Γ (fun d Γ1=>match oE d T with | some b=>P (.bl b) Γ1 | none=>False) E
theorem zmz(K K' :W.Frag)(S T:String):W.kitOne K (.type S) (.type T)=W.kitOne K' (.type S) (.type T):=rfl
section
variable{X:Cx}{pins:aV}{σ:St}{F H:Hp}{s:Shared}
theorem zxc(I:Inv X pins σ H s)(sF:Same F H)(r:Rep X.K F d x)(rx:RelV x u)(hS:Gj d=some S)(e:W.kitOne X.K (.type S) c=some b)
  (h:∀tk,Q (.bool b) {s with toks:=tk}):wpAny (model X.prog X.w) A (call (.builtin "isinstance") [u,c]) Q E s:=by
 cases d with
 | non=>unfold Rep at r;subst r;cases hS;exact Fb I rx (.non) e h
 | bl y=>unfold Rep at r;subst r;cases hS;exact Fb I rx (.bl y) e h
 | int y=>unfold Rep at r;subst r;cases hS;exact Fb I rx (.int y) e h
 | str y=>unfold Rep at r;subst r;cases hS;exact Fb I rx (.str y) e h
 | tup xs=>
  unfold Rep at r;cases hS;obtain⟨a,vs,rfl,hq,_⟩:=r;cases rx;obtain⟨its,_,⟨o,h1,h2,_⟩,_⟩:=I.tuple (jy sF hq);exact W.kia_one W.kitx_tuple I.kIn ⟨o,h1,h2⟩ e (fun z=>nomatch z) h
 | lst xs=>
  unfold Rep at r;cases hS;obtain⟨a,vs,rfl,hq,_⟩:=r;cases rx;obtain⟨its,_,⟨o,n,h1,h2,_⟩,_⟩:=I.list (sF.seq hq);exact W.kia_one W.kitx_list I.kIn ⟨o,h1,h2⟩ e (fun z=>nomatch z) h
 | exc C=>cases hS
 | ptr _=>cases hS
 | obj _ _ _=>cases hS
 | fB _ _=>cases hS
 | fU _ _=>cases hS
 | n6 ks ds=>
  unfold Rep at r;obtain⟨p,o,vs,rfl,hq,_⟩:=r;cases hS;cases rx;obtain⟨_,_,_,ws,_,o',es,ep,h1,h2,_⟩:=(show aX X.prog X.w H s.heap p (.frz o (.dK (ks.zip vs))) from I.hok p _ (sF _ _ hq));exact W.kia_one W.kitx_dict I.kIn ⟨o',h1,h2.1⟩ e (fun z=>nomatch z) h
end
section
variable{X:Cx}{F0 H0:Hp}{a:Expr}{pos p pt:Pos}{ta:aB}{x:Str}{T:String}
theorem Te(ha:QE X F0 H0 a ta)(hg:Gl X "isinstance")(hm:X.mg "isinstance" =none)(hgT:Gl X x)(hmT:X.mg x=none)(hv:bootBuiltins x=some (.type T))(hn:x≠ "__name__" :=by decide)(hd:(x==("__debug__" :Str))=false:=by decide)
  (he:starEach [a,.Name x pt] X.env=(false,eval a X.env)::starEach [.Name x pt] X.env:=by rfl) (he2:starEach [.Name x pt] X.env= [(false,eval (.Name x pt) X.env)]:=by rfl):QE X F0 H0 (.Call (.Name "isinstance" p) [a,.Name x pt] [] pos) (uF T ta):=fun z E cx=>by
 have pT:PE (X.wsh z) (.Name x pt) (tC (.ty T)):=Yv (X:=X.wsh z) hgT hmT hv rfl hn hd;refine jB (Jq (X:=X.wsh z) (id:= "isinstance") (r:=fun vs H Q=>∃(F:Hp) (d:D) (x:V) (P:Bool ->Prop),vs= [x,.ty T]/\Same F H/\Rep X.K F d x/\ (match oE d T with | some b=>P b | none=>False)/\∀b,P b ->Q (.bl b) H) ?_ hg hm boot_isinstance (uf (ha z E cx) (uf pT yq (by rw[he2];rfl)) he) (by decide) (by decide) he (by rw[he2];rfl)) fun σ H Q ⟨F,Γ,P,R,h,k⟩=> ?_
 ·rintro pins s σ H xs us Q I r ⟨F,d,y,P,e1,sF,rd,hb,k⟩;subst e1;obtain⟨u,w,rfl,ru,lR⟩:=vals2 r;obtain rfl:w=Value.type T:=lR;unfold oE at hb;cases hS:Gj d with
  | none=>rw[hS] at hb;exact hb.elim
  | some S=>
   rw[hS] at hb;cases hk:W.kitOne [] (.type S) (.type T) with
   | none=>simp only [Option.bind_some,hk] at hb
   | some b=>
    simp only [Option.bind_some,hk] at hb;exact zxc I sF rd ru hS (zmz X.K [] S T ▸ hk) fun tk=>⟨.bl b,H,I.tok tk,rfl,k b hb⟩
 ·refine⟨F,Γ,_,R,h,fun d Γ1 F1 H1 v R1 s1 r1 h1=>⟨F1,d,v,fun b=>P (.bl b) Γ1,rfl,R1.g,r1,h1,fun b hp=>k _ _ _ _ _ R1 s1 (by unfold Rep;rfl) hp⟩⟩
end
def wF(C:Addr)(t:aO):aq:=fun _ Γ E=>t Γ (fun ds Γ1=>ds.length<=sizeLine/\E Γ1 (.ref C)) E
section
variable{X:Cx}{F0 H0:Hp}{e:Expr}{es:List Expr}{pos np cpos:Pos}{t:aO}{x:Str}{C:Addr}
end
structure dY (P:Program) (w:World) (K:W.Frag) (mg:Str ->Option Value) (base:Heap) (x:Str) (k:Nat) (ps:List Str) (sp:bH):Prop where
 ex:∃f fd,cJ P w K mg base (cN P w) k f fd ps (jC K sp)/\mg x=some (.ref f)/\W.keepIn K (.ref f)=true/\Binds K fd ps []
section
variable{X:Cx}{F0 H0:Hp}{e:Expr}{es:List Expr}{pos p:Pos}{x:Str}{ps:List Str}{k:Nat}{sp:bH}{t:aO}
theorem gb(G:dY X.prog X.w X.K X.mg X.base x k ps sp)(hr:bT k X.A)(hg:Gl X x)(ha:QA X F0 H0 (e::es) t)(hdb:(x==("__debug__" :Str))=false:=by decide)(he:starEach (e::es) X.env=(false,eval e X.env)::starEach es X.env:=by rfl)(hpl:(backTo pos (starEach es X.env)).any (·.1)=false:=by rfl):
  QE X F0 H0 (.Call (.Name x p) (e::es) [] pos) (aP sp t):=by
 obtain⟨f,fd,h1,h2,h3,h4⟩:=G.ex;exact zt4 h1 hr hg h2 h3 h4 ha hdb he hpl
end
section
variable{X:Cx}{pins:aV}{σ:St}{H:Hp}{s:Shared}{a:Addr}{o:HO}
theorem Inv.track(I:Inv X pins σ H s)(hn:H a=none)(ok:aX X.prog X.w (L2.upd H a o) s.heap a o)(n0:X.s₀.heap.get? a=none)(nl:a≠X.env.locals)(nc:∀x c,X.env.cells.lookup x=some c ->c≠a)(np:∀p∈X.pn++pins,p.1≠a):Inv X pins σ (L2.upd H a o) s:=by
 refine⟨I.ok,I.os,I.bare,⟨I.base.keep,I.base.slot,fun b u e n hx=> ?_,I.base.there,fun b xs e=> ?_,fun b u xs e=> ?_,fun b ps e=> ?_⟩,I.loc,I.cell,?_,fun x c e=> ?_,fun p hp=> ?_,fun b u e=> ?_,I.len⟩
 ·rw[bC (fun z=>by rw[z,n0] at e;cases e)];exact I.base.free b u e n hx
 ·have q:=I.base.tups b xs e;rw[bC (eO q hn)];exact q
 ·have q:=I.base.fW b u xs e;rw[bC (eO q hn)];exact q
 ·obtain⟨m,q⟩:=I.base.gG b ps e;exact⟨m,by rw[bC (eO q hn)];exact q⟩
 ·rw[bC (Ne.symm nl)];exact I.free
 ·rw[bC (nc x c e)];exact I.freeC x c e
 ·obtain⟨e,n,ne,nf,d⟩:=I.pin p hp;exact⟨e,by rw[bC (np p hp)];exact n,ne,nf,d⟩
 ·by_cases hb:b=a
  ·subst hb;rw[iu] at e;cases e;exact ok
  ·rw[bC hb] at e;exact(I.hok b u e).stay (fun c v _ q=>q) (fun c q=>by rw[bC (eO q hn)];exact q) fun c xs q=>by rw[bC (eO q hn)];exact q
end
section
variable{X:Cx}{F0 H0:Hp}{pos np hp:Pos}{x n:Str}{Cd:Addr}{body suite:List Stmt}{b₀:Stmt}{tb th:aq}{i:Nat}
end
def Gk:bH:=fun ds P _=>∃ns:List Int,ds= [.lst (ns.map .int)]/\ns.length<=63/\P (.bl true)
theorem Gm{K:W.Frag}{F:Hp}:∀ns:List Int,ak K F (ns.map .int) (ns.map V.int)
 | []=>by unfold ak;rfl
 | n::ns=>pq (by unfold Rep;rfl) (Gm ns)
theorem zpd{K:W.Frag}{H:Hp}{a:Addr}{ns:List Int}(hl:ns.length<=63)(hS:dW K H a (ns.map V.int)):jC K Gk [.ref a] H (fun v _=>v= .bl true) fun _ _ _=>False:=
 ⟨H,[.lst (ns.map .int)],fun d=>d= .bl true,fun _=>False,.refl _,yu (by unfold Rep;exact⟨a,_,rfl,hS,Gm ns⟩),⟨ns,rfl,hl,rfl⟩,fun d v F' H' gr r h=>by subst h;unfold Rep at r;exact r,fun _ _ _ _ _ h=>h.elim⟩
theorem zsa(h:cN P w [] H s (fun _ _ _=>False) e s'):False:=by
 obtain⟨_,_,_,_,_,_,_,_,_,_,_,_,_,h⟩:=h;exact h
structure Cls where
 bx:Addr:=0
 gO:Addr:=0
 KD:Addr:=0
 KH:Addr:=0
 Tf:Addr:=0
 Missing:Addr:=0
 Bs:Addr:=0
 Few:Addr:=0
 Apart:Addr:=0
 Gn:Addr:=0
 aL:Addr:=0
 Open:Addr:=0
 KJ:Addr:=0
 yK:Addr:=0
 Tg:Addr:=0
 Scale:Addr:=0
 aan:Addr:=0
 Gp:Addr:=0
 aao:Addr:=0
structure qN (K:W.Frag) (C:Addr):Prop where
 ga:W.findIn K (.ref C) "__getattribute__" =some (some (.builtin "BaseException.__getattribute__"))
 gn:W.findIn K (.ref C) "__getattr__" =some none
 cl:W.findIn K (.ref C) "__class__" =some (some (.builtin "object.__class__"))
 ob:W.mroIn K C (.type "object")=some true
 be:W.mroIn K C (.type "BaseException")=some true
def KN(K:W.Frag)(C:Addr)(ta:aB):aB:=fun Γ P E=>ta Γ (fun d Γ1=>match d with | .exc C0=>(jA K C0/\qN K C0)/\P (.bl (cZ K C0 C)) Γ1 | _=>False) E
section
open PySem.W PySem.Builtin PySem.Builtin.ObjectAttr PySem.Builtin.Getset_descriptor
variable{prog:Program}{w:World}{A:Around}{E:bf}{K:W.Frag}{h:Heap}{g:Array GenState}{d:Drawn}{t:Nat}{os:OsState}{a C:Addr}{o:Obj}
theorem zih(X:K.In h)(G:qN K C)(hx:h.get? a=some o)(hc:o.cls= .ref C)(hq:Q () ⟨h,g,d,t,os⟩):wpAny M A (checkBuiltinCall "BaseException.__getattribute__" ⟨[.ref a,nameV],[]⟩) Q E ⟨h,g,d,t,os⟩:=by
 have hk:builtinKind "BaseException.__getattribute__" =some .slot:=by decide+kernel
 have hsp:splitId "BaseException.__getattribute__" =some ("BaseException","__getattribute__"):=by decide+kernel
 have ha:=F.args_bexc_ga (.ref a) nameV;have L1:=looks_mroIn (M:=M) X G.be;simp only [checkBuiltinCall,hk,hsp];refine z6 ?_;unfold isInstance
 repeat (first | (with_reducible refine wpAny_loadPart_at hx ?_;rw[hc]) | with_reducible refine L1.at ?_ | wp_step)
 exact hq
def wG(K:W.Frag)(C:Addr):Bool:=match K.lookup C with
 | some ⟨.type "type",_,.cls cd,_⟩=>(match cd.mro with | .ref C' ::_=>C' ==C | _=>false)
 | _=>false
end
section
variable{X:Cx}{F0 H0:Hp}{a:Expr}{pos p pt:Pos}{ta:aB}{x:Str}{C:Addr}
end
theorem KQ:∀(names:List (Str×NameKind)) (n:Nat) (acc:List (Str×Addr)),(∀p∈names,p.2= .cell ->p.1≠x) ->(cellsFrom n names acc).lookup x=acc.lookup x
 | [],_,_,_=>rfl
 | (y,k)::r,n,acc,h=>by
  unfold cellsFrom;have hr:∀p∈r,p.2= .cell ->p.1≠x:=fun p hp=>h p (zX _ hp);split
  ·rename_i hk;have hy:y≠x:=h (y,k) zY (by simpa using hk)
   rw[KQ r _ _ hr,List.lookup_cons];have:(x==y)=false:=by rw[beq_eq_false_iff_ne];exact Ne.symm hy
   rw[this]
  ·exact KQ r _ _ hr
theorem KR:∀(names:List (Str×NameKind)) (h:Heap) (acc:List (Str×Addr)),(x,c)∈cellsFrom h.objs.size names acc ->(x,c)∈acc\/ (h.objs.size<=c/\ (pushCells h names).IsCell c none/\ (x,NameKind.cell)∈names)
 | [],_,_,m=> .inl m
 | (y,k)::r,h,acc,m=>by
  unfold cellsFrom at m;unfold pushCells;split at m
  ·rename_i hk;rw[if_pos hk];have sz:(h.push {cls:= .type "cell",data:= .cell none}).objs.size=h.objs.size+1:=Heap.size_push ..;rw[<- sz] at m;rcases KR r _ _ m with z | ⟨z1,z2,z3⟩
   ·rcases zV.mp z with e | z
    ·cases e;have e2:k= .cell:=by simpa using hk
     subst e2;refine .inr ⟨zO _,?_,zY⟩;exact⟨_,pushCells_keeps r _ _ _ (z9 _ rfl),rfl⟩
    ·exact .inl z
   ·exact .inr ⟨by rw[sz] at z1;omega,z2,zX _ z3⟩
  ·rename_i hk;rw[if_neg hk];rcases KR r h acc m with z | ⟨z1,z2,z3⟩
   ·exact .inl z
   ·exact .inr ⟨z1,z2,zX _ z3⟩
theorem KY:∀(names:List (Str×NameKind)) (n:Nat) (acc:List (Str×Addr)),(acc.Pairwise fun x y=>x.2≠y.2) ->(∀p∈acc,p.2<n) ->(cellsFrom n names acc).Pairwise fun x y=>x.2≠y.2
 | [],_,_,h,_=>h
 | (y,k)::r,n,acc,h,hl=>by
  unfold cellsFrom;split
  ·refine KY r _ _ (List.pairwise_cons.mpr ⟨fun p hp e=> ?_,h⟩) fun p hp=> ?_
   ·have e' :n=p.2:=e;exact zG _ (Nat.lt_of_lt_of_eq (hl p hp) e')
   ·rcases zV.mp hp with rfl | hp
    ·exact Nat.lt_succ_self _
    ·exact Nat.lt_succ_of_lt (hl p hp)
  ·exact KY r n acc h hl
def iC(env:Env):List (Str×NameKind) ->List (Str×Addr) ->List (Str×Addr)
 | [],cs=>cs
 | (n,k)::r,cs=>iC env r (if k== .free then(n,(env.cells.lookup n).getD 0)::cs else cs)
theorem zuc(h:∀p∈scope.names,p.2= .free ->∃c,env.cells.lookup p.1=some c):closureFor scope env=pure (iC env scope.names []):=by
 have key:∀(names:List (Str×NameKind)) (cs:List (Str×Addr)),(∀p∈names,p.2= .free ->∃c,env.cells.lookup p.1=some c) ->
   (forIn names cs fun(x:Str×NameKind) (r:List (Str×Addr))=>(if x.2== .free then do let a<- cellOf env x.1;pure (ForInStep.yield ((x.1,a)::r)) else pure (ForInStep.yield r):Sem _))=pure (iC env names cs):=by
  intro names;induction names with
  | nil=>intro cs _;rfl
  | cons p r ih=>
   intro cs hh;obtain⟨n,k⟩:=p;have hr:∀p∈r,p.2= .free ->∃c,env.cells.lookup p.1=some c:=fun p hp=>hh p (zX _ hp);rw[List.forIn_cons];unfold iC;by_cases hk:(k==NameKind.free)=true
   ·obtain⟨c,e⟩:=hh (n,k) zY (by simpa using hk)
    have e' :cellOf env n=pure c:=by unfold cellOf;rw[e]
    simp only [hk,if_true,e',pure_bind,e,Option.getD_some];exact ih _ hr
   ·have hk' :(k==NameKind.free)=false:=by simpa using hk
    simp only [hk',Bool.false_eq_true,if_false,pure_bind];exact ih _ hr
 unfold closureFor;have:=key scope.names [] h
 simpa using this
theorem KZ:∀(names:List (Str×NameKind)) (cs:List (Str×Addr)),(∀p∈names,p.2= .free ->∃c,env.cells.lookup p.1=some c) ->(x,c)∈iC env names cs ->(x,c)∈cs\/ ((x,NameKind.free)∈names/\env.cells.lookup x=some c)
 | [],_,_,m=> .inl m
 | (n,k)::r,cs,hh,m=>by
  unfold iC at m;have hr:∀p∈r,p.2= .free ->∃c,env.cells.lookup p.1=some c:=fun p hp=>hh p (zX _ hp);rcases KZ r _ hr m with z | ⟨z1,z2⟩
  ·split at z
   ·rename_i hk;rcases zV.mp z with e | z
    ·cases e;have e2:k= .free:=by simpa using hk
     subst e2;obtain⟨c,e⟩:=hh (_,.free) zY rfl;refine .inr ⟨zY,?_⟩;have e' :env.cells.lookup x=some c:=e;rw[e'];rfl
    ·exact .inl z
   ·exact .inl z
  ·exact .inr ⟨zX _ z1,z2⟩
theorem Gq(e:env.cells.lookup x=some c):∀(names:List (Str×NameKind)) (cs:List (Str×Addr)),((x,NameKind.free)∈names\/cs.lookup x=some c) ->(∀c',cs.lookup x=some c' ->c' =c) ->(iC env names cs).lookup x=some c
 | [],cs,h,_=>by
  rcases h with h | h
  ·cases h
  ·exact h
 | (n,k)::r,cs,h,hu=>by
  unfold iC;by_cases hk:(k==NameKind.free)=true
  ·rw[if_pos hk];by_cases hn:x=n
   ·subst hn;refine Gq e r _ (.inr ?_) fun c' q=> ?_
    ·rw[List.lookup_cons];simp [e]
    ·rw[List.lookup_cons] at q;simp [e] at q;exact q.symm
   ·have hb:(x==n)=false:=by rw[beq_eq_false_iff_ne];exact hn
    refine Gq e r _ ?_ fun c' q=> ?_
    ·rcases h with h | h
     ·rcases zV.mp h with z | z
      ·cases z;exact absurd rfl hn
      ·exact .inl z
     ·refine .inr ?_;rw[List.lookup_cons,hb];exact h
    ·rw[List.lookup_cons,hb] at q;exact hu c' q
  ·rw[if_neg hk];refine Gq e r cs ?_ hu;rcases h with h | h
   ·rcases zV.mp h with z | z
    ·cases z;exact absurd rfl hk
    ·exact .inl z
   ·exact .inr h
theorem K1(inj:∀x y c,env.cells.lookup x=some c ->env.cells.lookup y=some c ->x=y):∀(names:List (Str×NameKind)) (cs:List (Str×Addr)),(names.map (·.1)).Nodup ->(∀p∈names,p.2= .free ->∃c,env.cells.lookup p.1=some c) ->
  (cs.Pairwise fun x y=>x.2≠y.2) ->(∀p∈cs,env.cells.lookup p.1=some p.2/\p.1∉names.map (·.1)) ->(iC env names cs).Pairwise fun x y=>x.2≠y.2
 | [],_,_,_,h,_=>h
 | (n,k)::r,cs,nd,hh,h,hc=>by
  unfold iC;rw[List.map_cons,List.nodup_cons] at nd;have hr:∀p∈r,p.2= .free ->∃c,env.cells.lookup p.1=some c:=fun p hp=>hh p (zX _ hp);have hc' :∀p∈cs,env.cells.lookup p.1=some p.2/\p.1∉r.map (·.1):=fun p hp=>⟨(hc p hp).1,fun z=>(hc p hp).2 (by rw[List.map_cons];exact zX _ z)⟩
  by_cases hk:(k==NameKind.free)=true
  ·rw[if_pos hk];obtain⟨c,e⟩:=hh (n,k) zY (by simpa using hk)
   have e' :env.cells.lookup n=some c:=e;rw[e'];refine K1 inj r _ nd.2 hr (List.pairwise_cons.mpr ⟨fun p hp z=> ?_,h⟩) fun p hp=> ?_
   ·have z' :c=p.2:=z;have q:=(hc p hp).1;rw[<- z'] at q;have:=inj _ _ _ e' q;exact(hc p hp).2 (by rw[List.map_cons,<- this];exact zY)
   ·rcases zV.mp hp with rfl | hp
    ·exact⟨e',nd.1⟩
    ·exact hc' p hp
  ·rw[if_neg hk];exact K1 inj r cs nd.2 hr h hc'
theorem K3{scope:Scope}{env:Env}{x:Str}:∀(names:List (Str×NameKind)) {k:NameKind},names.lookup x=some k ->(names.map fun(n,k)=>if (k==NameKind.free&&env.scope.kind== .function&&env.kindOf n==some .cell) then(n,NameKind.cell) else(n,k)).lookup x=some k\/
   (k= .free/\ (names.map fun(n,k)=>if (k==NameKind.free&&env.scope.kind== .function&&env.kindOf n==some .cell) then(n,NameKind.cell) else(n,k)).lookup x=some .cell)
 | [],_,h=>by simp at h
 | (n,k0)::r,k,h=>by
  have ih:= @K3 scope env x r k;show List.lookup x ((if (k0==NameKind.free&&env.scope.kind== .function&&env.kindOf n==some .cell)=true then(n,NameKind.cell) else(n,k0))::_)=_\/ (_/\List.lookup x ((if (k0==NameKind.free&&env.scope.kind== .function&&env.kindOf n==some .cell)=true then(n,NameKind.cell) else(n,k0))::_)=_);cases hx:x==n with
  | true=>
   simp only [List.lookup_cons,hx] at h;cases h;by_cases hc:(k0==NameKind.free&&env.scope.kind== .function&&env.kindOf n==some .cell)=true
   ·rw[if_pos hc];simp only [Bool.and_eq_true] at hc;exact .inr ⟨by simpa using hc.1.1,by simp only [List.lookup_cons,hx]⟩
   ·rw[if_neg hc];exact .inl (by simp only [List.lookup_cons,hx])
  | false=>
   simp only [List.lookup_cons,hx] at h;by_cases hc:(k0==NameKind.free&&env.scope.kind== .function&&env.kindOf n==some .cell)=true
   ·rw[if_pos hc];simp only [List.lookup_cons,hx];exact ih h
   ·rw[if_neg hc];simp only [List.lookup_cons,hx];exact ih h
def dO(scope:Scope)(C:Addr)(env:Env):Env:=
 {scope:=relabel scope env,locals:=C,globals:=env.globals,cells:=cellsFrom (C+1) scope.names (iC env scope.names []),qual:=env.qual,func:=none,code:=env.code,frame:=env.frame,builtins:=env.builtins}
def blk(X:Cx)(scope:Scope)(N:List Str)(C:Addr)(s₀:Shared)(H₀:Hp)(fp:List Addr):Cx:=
 {X with env:=dO scope C X.env,N:=N,s₀:=s₀,H₀:=H₀,outer:=X.stack,stack:=X.stack,ex:=fp,fn:=fun x=>scope.names.lookup x==some .cell,pn:= [],xe:=fun _ _=>False}
def lE(own:Nat)(caps:List Nat)(σ:St):St:=List.replicate own none++caps.map fun j=>(σ[j]?).join
structure dM (N:List Str) (sc:Scope) (own:List Str) (caps:List Nat) (env:Env) (N' :List Str):Prop where
 kind:sc.kind= .function
 nd:N'.Nodup
 snd:(sc.names.map (·.1)).Nodup
 free:∀p∈sc.names,p.2= .free ->env.kindOf p.1=some .cell\/env.kindOf p.1=some .free
 names:N' =own++caps.map fun j=>N.getD j ""
 caps:∀j∈caps,j<N.length/\sc.names.lookup (N.getD j "")=some .free
theorem zom
  (hQ:Q (newEnv scope s.heap.objs.size g (cellsFrom (s.heap.objs.size+1) scope.names cl) q none .none (some env) builtinsNs) {s with heap:=pushCells (s.heap.push {cls:= .type "dict",data:= .dict #[]}) scope.names}):
  wpAny M A (newFunctionEnv scope g cl [] q none .none (some env)) Q E s:=by
 simp only [newFunctionEnv,Option.isSome_some,if_true];refine z6 (wpAny_alloc ?_);refine z6 (wpAny_layCells _ (fun name kind cells=>by cases hkc:kind==NameKind.cell<;>simp [hkc]) _ _ _ _ ?_)
 rw[show({s with heap:=s.heap.push {cls:= .type "dict",data:= .dict #[]}}:Shared).heap.objs.size=s.heap.objs.size+1 from Heap.size_push ..];simp only [List.forIn_nil];exact z6 (z7 (z7 hQ))
section
variable{X:Cx}{pins:aV}{σ:St}{H:Hp}{s:Shared}{sc:Scope}{own:List Str}{caps:List Nat}{N' :List Str}{fp:List Addr}
theorem Gs(I:Inv X pins σ H s)(S:dM X.N sc own caps X.env N'):∀p∈sc.names,p.2= .free ->∃c,X.env.cells.lookup p.1=some c:=fun p hp hk=>I.ok.has _ (S.free p hp hk)
theorem Gu(I:Inv X pins σ H s)(S:dM X.N sc own caps X.env N')(e:(dO sc s.heap.objs.size X.env).cells.lookup x=some c):
  (X.env.cells.lookup x=some c/\c<s.heap.objs.size/\sc.names.lookup x≠some .cell)\/ (s.heap.objs.size+1<=c/\ (pushCells (s.heap.push {cls:= .type "dict",data:= .dict #[]}) sc.names).IsCell c none):=by
 have m:=mem_of_lookup e;have sz:(s.heap.push {cls:= .type "dict",data:= .dict #[]}).objs.size=s.heap.objs.size+1:=Heap.size_push ..;have m' :(x,c)∈cellsFrom (s.heap.push {cls:= .type "dict",data:= .dict #[]}).objs.size sc.names (iC X.env sc.names []):=by rw[sz];exact m
 rcases KR sc.names _ _ m' with z | ⟨z1,z2,z3⟩
 ·rcases KZ sc.names [] (Gs I S) z with z | ⟨z1,z2⟩
  ·cases z
  ·obtain⟨v,hc⟩:=I.cell x c z2;refine .inl ⟨z2,hc.lt,fun q=> ?_⟩;have q' :=mem_of_lookup q;have:=S.snd;rw[List.Nodup,List.pairwise_map] at this;have d:∀(l:List (Str×NameKind)),(l.Pairwise fun a b=>a.1≠b.1) ->(x,NameKind.free)∈l ->(x,NameKind.cell)∈l ->False:=by
    intro l;induction l with
    | nil=>intro _ h;cases h
    | cons a r ih=>
     intro hp h1 h2;obtain⟨p1,p2⟩:=List.pairwise_cons.mp hp;rcases zV.mp h1 with e1 | h1<;>rcases zV.mp h2 with e2 | h2
     ·rw[<- e1] at e2;cases e2
     ·exact p1 _ h2 (by rw[<- e1])
     ·exact p1 _ h1 (by rw[<- e2])
     ·exact ih p2 h1 h2
   exact d _ this z1 q'
 ·exact .inr ⟨by rw[sz] at z1;exact z1,z2⟩
theorem K4(I:Inv X pins σ H s)(S:dM X.N sc own caps X.env N')(hk:sc.names.lookup x=some .free)(e:X.env.cells.lookup x=some c):(dO sc s.heap.objs.size X.env).cells.lookup x=some c:=by
 show(cellsFrom _ sc.names (iC X.env sc.names [])).lookup x=some c;rw[KQ]
 ·exact Gq e _ _ (.inl (mem_of_lookup hk)) fun c' q=>by cases q
 ·intro p hp hc z;have q:=mem_of_lookup hk;have:=S.snd;rw[List.Nodup,List.pairwise_map] at this;have d:∀(l:List (Str×NameKind)),(l.Pairwise fun a b=>a.1≠b.1) ->(x,NameKind.free)∈l ->p∈l ->False:=by
   intro l;induction l with
   | nil=>intro _ h;cases h
   | cons a r ih=>
    intro K5 h1 h2;obtain⟨p1,p2⟩:=List.pairwise_cons.mp K5;rcases zV.mp h1 with e1 | h1<;>rcases zV.mp h2 with e2 | h2
    ·rw[<- e1] at e2;subst e2;cases hc
    ·exact p1 _ h2 (by rw[<- e1];exact z.symm)
    ·exact p1 _ h1 (by rw[<- e2];exact z)
    ·exact ih p2 h1 h2
  exact d _ this q hp
theorem Ti(I:Inv X pins σ H s)(S:dM X.N sc own caps X.env N')(Bt:∀x c v,X.env.cells.lookup x=some c ->s.heap.IsCell c v ->h'.IsCell c v)(i:Nat)(x:Str)(v:V)(h1:N'[i]?=some x)(h2:(lE own.length caps σ)[i]?=some (some v)):
  ∃u,RelV v u/\Look (dO sc s.heap.objs.size X.env) h' m' x u:=by
 have h2' :(lE own.length caps σ)[i]?=some (some v):=h2;have h1' :N'[i]?=some x:=h1;unfold lE at h2';rw[S.names] at h1';by_cases hi:i<own.length
 ·rw[List.getElem?_append_left (by simpa using hi),List.getElem?_replicate] at h2'
  split at h2' <;>cases h2'
 ·rw[List.getElem?_append_right (by simpa using hi),List.getElem?_map,List.length_replicate] at h2'
  rw[List.getElem?_append_right (by omega),List.getElem?_map] at h1'
  cases hj:caps[i - own.length]? with
  | none=>rw[hj] at h1';cases h1'
  | some j=>
   rw[hj] at h1' h2';obtain⟨j1,j2⟩:=S.caps j (List.mem_of_getElem? hj);have hx:X.N.getD j "" =x:=by simpa using h1'
   have hσ:σ[j]?=some (some v):=by
    have:(σ[j]?).join=some v:=by simpa using h2'
    cases q:σ[j]? with
    | none=>rw[q] at this;cases this
    | some o=>rw[q] at this;have:o=some v:=this;rw[this]
   rw[hx] at j2;have hN:X.N[j]?=some x:=by
    rw[List.getD_eq_getElem?_getD,List.getElem?_eq_getElem j1] at hx;rw[List.getElem?_eq_getElem j1]
    simpa using hx
   obtain⟨m,hn,hloc⟩:=I.loc;have kx:=S.free (x,.free) (mem_of_lookup j2) rfl;have vis:nP X.env.scope x:=by
    rcases kx with k | k
    ·exact .inr (.inl k)
    ·exact .inr (.inr k)
   obtain⟨u,ru,l⟩:=hloc j x v hN hσ vis;refine⟨u,ru,.inr ⟨?_,?_⟩⟩
   ·rcases K3 (scope:=sc) (env:=X.env) sc.names j2 with h | ⟨_,h⟩
    ·exact .inr h
    ·exact .inl h
   ·rcases l with ⟨k,_⟩ | ⟨_,c,ec,hc⟩
    ·have k' :X.env.kindOf x=some .local:=k;have Tj :X.env.kindOf x=some .cell\/X.env.kindOf x=some .free:=kx;rw[k'] at Tj;rcases Tj with z | z<;>cases z
    ·exact⟨c,K4 I S j2 ec,Bt x c _ ec hc⟩
theorem zq1(I:Inv X pins σ H s)(S:dM X.N sc own caps X.env N')(hf:∀b∈fp,fH X pins H b)(hl:∀b∈fp,b<s.heap.objs.size):
  Inv (blk X sc N' s.heap.objs.size s H fp) [] (lE own.length caps σ) H {s with heap:=pushCells (s.heap.push {cls:= .type "dict",data:= .dict #[]}) sc.names}:=by
 have keep:∀b o,s.heap.get? b=some o ->(pushCells (s.heap.push {cls:= .type "dict",data:= .dict #[]}) sc.names).get? b=some o:=fun b o e=>pushCells_keeps _ _ b o (z8 _ e);have ok:=I.ok;have inj:∀x y c,(dO sc s.heap.objs.size X.env).cells.lookup x=some c ->(dO sc s.heap.objs.size X.env).cells.lookup y=some c ->x=y:=fun x y c e1 e2=>by
  refine name_of_addr (cs:=(dO sc s.heap.objs.size X.env).cells) ?_ (mem_of_lookup e1) (mem_of_lookup e2);refine KY _ _ _ (K1 ok.inj _ _ S.snd (Gs I S) List.Pairwise.nil (fun p hp=>by cases hp)) fun p hp=> ?_
  rcases KZ (x:=p.1) (c:=p.2) sc.names [] (Gs I S) hp with z | ⟨_,z⟩
  ·cases z
  ·obtain⟨v,hc⟩:=I.cell _ _ z;exact Nat.lt_succ_of_lt hc.lt
 have frC:∀b,s.heap.objs.size<=b ->H b=none:=fun b hb=>I.hok.fresh hb;have K6:(dO sc s.heap.objs.size X.env).scope.kind= .function:=S.kind;refine⟨⟨ok.mod,K6,ok.glob,ok.blt,zO _,inj,fun x hx=> ?_,fun x c hfn e=> ?_,ok.hd,ok.frames,.inl rfl,fun b hb=>⟨zM (hl b hb),fun x c e z=> ?_⟩,I.bs,zP ok.tW I.sz,fun b o e hb=> ?_,fun b hb z=> ?_,I.stack,I.stkFree⟩,
  rfl,I.bare,Un.kept keep,⟨_,(Heap.Ns.new s.heap (.type "dict")).keeps (pushCells_keeps _ _),fun i x v h1 h2 h3=> ?_⟩,fun x c e=> ?_,frC _ (zO _),fun x c e=> ?_,fun p hp=>absurd (show p∈ ([]:aV) from hp) (by simp),I.hok.kept keep,?_⟩
 ·
  have hx' :(relabel sc X.env).names.lookup x=some .cell\/ (relabel sc X.env).names.lookup x=some .free:=hx;have:∃k,sc.names.lookup x=some k:=by
   have key:∀(l:List (Str×NameKind)) (k' :NameKind),(l.map fun(n,k)=>if (k==NameKind.free&&X.env.scope.kind== .function&&X.env.kindOf n==some .cell) then(n,NameKind.cell) else(n,k)).lookup x=some k' ->∃k,l.lookup x=some k:=by
    intro l;induction l with
    | nil=>intro k' h;simp at h
    | cons a r ih=>
     intro k' h;obtain⟨n,k0⟩:=a;cases hb:x==n with
     | true=>exact⟨k0,by simp [List.lookup_cons,hb]⟩
     | false=>
      have h2:List.lookup x ((if (k0==NameKind.free&&X.env.scope.kind== .function&&X.env.kindOf n==some .cell)=true then(n,NameKind.cell) else(n,k0))::(r.map _))=some k' :=h;obtain⟨k,hk⟩:=ih k' (by
       split at h2<;>(simp only [List.lookup_cons,hb] at h2;exact h2))
      exact⟨k,by simp only [List.lookup_cons,hb];exact hk⟩
   rcases hx' with h | h
   ·exact key _ _ h
   ·exact key _ _ h
  obtain⟨k,hk⟩:=this;rcases K3 (scope:=sc) (env:=X.env) sc.names hk with h | ⟨h1,h2⟩
  ·have hkk:k= .cell\/k= .free:=by
    have h' :(relabel sc X.env).names.lookup x=some k:=h;rcases hx' with z | z<;>rw[z] at h' <;>cases h' <;>simp
   rcases hkk with rfl | rfl
   ·exact Option.isSome_iff_exists.mp (W.cellsFrom_some sc.names _ _ (.inl hk))
   ·obtain⟨c,e⟩:=ok.has x (S.free (x,.free) (mem_of_lookup hk) rfl);exact⟨c,K4 I S hk e⟩
  ·subst h1;obtain⟨c,e⟩:=ok.has x (S.free (x,.free) (mem_of_lookup hk) rfl);exact⟨c,K4 I S hk e⟩
 ·
  have K7 :sc.names.lookup x=some .cell:=by
   have:(sc.names.lookup x==some NameKind.cell)=true:=hfn
   simpa using this
  rcases Gu I S e with ⟨_,_,z⟩ | ⟨z,_⟩
  ·exact absurd K7 z
  ·show s.heap.objs.size<=c;exact Nat.le_of_succ_le z
 ·rcases Gu I S e with ⟨z1,_,_⟩ | ⟨z1,_⟩
  ·exact(hf b hb).2.2.2.2.1 x c z1 z
  ·have:=hl b hb;rw[<- z] at this;exact zG _ (zN this (Nat.le_of_succ_le z1))
 ·have q:=(hf b hb).2.2.2.1;rcases q with q | q
  ·exact ok.qu b o e q
  ·have q2:b<X.base.objs.size:=zK e;exact zG _ (zN q2 (zP ok.tW q))
 ·rcases zV.mp (I.stkSub b z) with z | z
  ·exact(hf b hb).2.1 z
  ·exact(hf b hb).2.2.1 z
 ·exact Ti I S (fun x c v _ hc=>hc.keeps keep) i x v h1 h2
 ·rcases Gu I S e with ⟨z1,_,_⟩ | ⟨_,z⟩
  ·obtain⟨v,hc⟩:=I.cell x c z1;exact⟨v,hc.keeps keep⟩
  ·exact⟨_,z⟩
 ·rcases Gu I S e with ⟨z1,_,_⟩ | ⟨z,_⟩
  ·exact I.freeC x c z1
  ·exact frC c (Nat.le_of_succ_le z)
 ·show(lE own.length caps σ).length=N'.length;rw[S.names];unfold lE;simp
theorem zq4(I:Inv X pins σ H s)(S:dM X.N sc own caps X.env N')(hf:∀b∈fp,fH X pins H b)(B:Inv (blk X sc N' s.heap.objs.size s H fp) je σ5 H5 s5):
  Inv (blk X sc N' s.heap.objs.size s H fp) je (lE own.length caps σ) H5 s5:=by
 obtain⟨m,hn,_⟩:=B.loc;have kc:∀x c v,X.env.cells.lookup x=some c ->s.heap.IsCell c v ->s5.heap.IsCell c v:=fun x c v e ⟨o,ho,hd⟩=>by
  have nx:c∉fp:=fun z=>(hf c z).2.2.2.2.1 x c e rfl;by_cases hc:c∈frs X.stack
  ·obtain⟨sl,q⟩:=B.base.slot c o ho (I.freeC x c e) hc nx;exact⟨_,q,hd⟩
  ·exact⟨o,B.base.keep c o ho (I.freeC x c e) hc nx,hd⟩
 exact⟨B.ok,B.os,B.bare,B.base,⟨m,hn,fun i x v h1 h2 h3=>Ti I S kc i x v h1 h2⟩,B.cell,B.free,B.freeC,B.pin,B.hok,by show(lE own.length caps σ).length=N'.length;rw[S.names];unfold lE;simp⟩
end
abbrev Tn(ifs:List Expr)(env:Env):Sem Bool:=forIn ifs true fun c r=>if r=true then do let ok<- isTrue c env (eval c env);pure (ForInStep.yield ok) else pure (ForInStep.yield r)
section
variable{prog:Program}{w:World}{A:Around}{R:Result ->Shared ->Prop}{s:Shared}
theorem zo9(I:Nat ->Shared ->Prop)
  (turn:∀n s,I n s ->wpAny (model prog w) A (pyNext it) (fun r s₁=>match r with
   | none=>R (.ok .next) s₁
   | some v=>wpAny (model prog w) A (letOwnedTupleGo target it v) (fun _ s₁' =>wpAny (model prog w) A (assign target env v) (fun _ s₂=>
     wpAny (model prog w) A (Tn ifs env) (fun ok s₃=>
      if ok=true then wpAny (model prog w) A (eval elt env) (fun x s₄=>
       wpAny (model prog w) A (call (.builtin "list.append") [acc,x]) (fun _ s₅=>∃m,m<n/\I m s₅) (fun _ _=>False) s₄) (fun _ _=>False) s₃
      else∃m,m<n/\I m s₃) (fun _ _=>False) s₂) (fun _ _=>False) s₁') (fun _ _=>False) s₁) (fun _ _=>False) s)
  (n:Nat) (h:I n s):
  codeAny (model prog w) A (.compLoop (.ListComp elt [⟨target,iter,ifs,0⟩] scope pos) 0 it acc env) R s:=by
 refine codeAny_loop rfl I (fun n s hI=> ?_) n h;show wpAny _ A ((compTurn (.ListComp elt [⟨target,iter,ifs,0⟩] scope pos) 0 it acc env).onRaise (fun x=>do noteFrame x env;theTreesLotGoes x)) _ _ s;refine wpAny_noted ?_;rw[compTurn_list];refine z6 (wpAny_standAt (z6 (wpAny_mono (turn n s hI) (fun r s₁ h₁=> ?_) fun _ _ h' =>h'.elim)));cases r with
 | none=>exact z7 h₁
 | some v=>
  refine z6 (wpAny_mono h₁ (fun _ s₁' h₁' => ?_) fun _ _ h' =>h'.elim);refine z6 (wpAny_mono h₁' (fun _ s₂ h₂=>z6 (wpAny_mono h₂ (fun ok s₃ h₃=> ?_) fun _ _ h' =>h'.elim)) fun _ _ h' =>h'.elim);cases ok with
  | false=>exact z7 ⟨rfl,h₃⟩
  | true=>
   exact z6 (z6 (wpAny_mono h₃ (fun x s₄ h₄=>z6 (wpAny_mono h₄ (fun _ s₅ h₅=>z7 (z7 ⟨rfl,h₅⟩)) fun _ _ h' =>h'.elim)) fun _ _ h' =>h'.elim))
end
def Gv(X:Cx)(ifs:List Expr)(t:TT):Prop:=
 ∀(pins:aV) (s:Shared) (σ:St) (H:Hp) (Q:Bool ->Hp ->Prop),Inv X pins σ H s ->t σ H Q ->wpAny (model X.prog X.w) X.A (Tn ifs X.env) (TP X pins σ Q) X.xe s
theorem zt8:Gv X [] (fun _ H Q=>Q true H):=fun pins s σ H Q I h=>wpAny_tests_nil ⟨H,I,h⟩
theorem zu2(h:PT X c t):Gv X [c] t:=fun pins s σ H Q I q=>wpAny_tests_one (h pins s σ H Q I q)
structure Bu (P:Program) (w:World) (K:W.Frag) (tg:Expr) (J:It) (fp:List Addr) (it:Addr) (tn:Nat ->Heap ->Prop) (cm:Cx ->Prop):Prop where
 mem:it∈fp
 obj:∀i h,tn i h ->∀b∈fp,∃o,h.get? b=some o/\∀v,o.data≠ .cell v
 keep:∀i h h',tn i h ->(∀b∈fp,∀o,h.get? b=some o ->h'.get? b=some o) ->tn i h'
 item:∀(X:Cx),X.prog=P ->X.w=w ->X.K=K ->cm X ->∀(i:Nat) (pins:aV) (s:Shared) (σ:St) (H:Hp) (E:bf),Inv X pins σ H s ->(∀b∈fp,fH X pins H b) ->tn i s.heap ->J.go i H ->
  wpAny (model P w) X.A (pyNext (.ref it)) (fun r s1=>∃u,r=some u/\
   wpAny (model P w) X.A (letOwnedTupleGo tg (.ref it) u) (fun _ s2=>∃x H',Inv X pins σ H' s2/\RelV x u/\J.yld i H x H' /\tn (i+1) s2.heap/\∀b∈fp,H' b=none) E s1) E s
 done:∀(X:Cx),X.prog=P ->X.w=w ->X.K=K ->cm X ->∀(i:Nat) (pins:aV) (s:Shared) (σ:St) (H:Hp) (E:bf),Inv X pins σ H s ->(∀b∈fp,fH X pins H b) ->tn i s.heap ->J.stop i H ->
  wpAny (model P w) X.A (pyNext (.ref it)) (fun r s1=>r=none/\Inv X pins σ H s1) E s
 self:∀(A:Around) (i:Nat) (s:Shared) (Q:bf) (E:bf),tn i s.heap ->Q (.ref it) s ->wpAny (model P w) A (pyIter (.ref it)) Q E s
def K8(X:Cx)(pins:aV)(σ:St)(tg:Expr)(R:It ->Hp ->Prop)(itv:Value)(s2:Shared):Prop:=
 ∃(it:Addr) (fp:List Addr) (tn:Nat ->Heap ->Prop) (J:It) (H' :Hp) (cm:Cx ->Prop),itv= .ref it/\Inv X pins σ H' s2/\Bu X.prog X.w X.K tg J fp it tn cm/\tn 0 s2.heap/\ (∀b∈fp,fH X pins H' b)/\R J H' /\
  ∀Y:Cx,Y.A=X.A ->Y.calm=X.calm ->(∀b o u,H' b=some (.frz o u) ->Y.H₀ b=some (.frz o u)) ->cm Y
def K9(X:Cx)(tg iter:Expr)(wi:TI):Prop:=
 ∀(pins:aV) (s:Shared) (σ:St) (H:Hp) (R:It ->Hp ->Prop),Inv X pins σ H s ->wi σ H R ->
  wpAny (model X.prog X.w) X.A (eval iter X.env) (fun v s1=>wpAny (model X.prog X.w) X.A (pyIter v) (K8 X pins σ tg R) X.xe s1) X.xe s
theorem Gw(hc:X.calm=true)(hi:PI X tg iter wi):K9 X tg iter wi:=fun pins s σ H R I h=>
 aY (hi pins s σ H R I h) fun v s1 h1=>aY h1 fun itv s2 hq1=>by obtain⟨it,fp,tn,J,H',e,I',T,st,f,r⟩:=hq1;exact⟨it,fp,tn,J,H',fun Y=>Y.calm=true,e,I',⟨T.mem,T.obj,T.keep,T.item,T.done,T.self⟩,st,f,r,fun Y _ q _=>q.trans hc⟩
def qO(acc:Addr)(J:It)(σ' :St)(g:TG)(tc:TT)(te:TE)(Q:V ->Hp ->Prop)(H1:Hp):Prop:=
 ∃W:Nat ->Nat ->List V ->Hp ->Prop,(∃m,W 0 m [] H1)/\∀i m vs H,W i m vs H ->H acc=some (.lst vs)/\vs.length<sizeLine+1/\
  ((J.stop i H/\Q (.ref acc) H)\/ (J.go i H/\vs.length<sizeLine/\∀x H',J.yld i H x H' ->g x σ' H' fun σ2 H2=>tc σ2 H2 fun b H3=>
   if b=true then te σ2 H3 fun v H4=>H4 acc=some (.lst vs)/\∃m',m' <m/\W (i+1) m' (vs++ [v]) (upd H4 acc (.lst (vs++ [v])))
   else∃m',m' <m/\W (i+1) m' vs H3))
def Bv(own:Nat)(caps:List Nat)(wi:TI)(g:TG)(tc:TT)(te:TE):TE:=fun σ H Q=>wi σ H fun J H1=>∀acc,H1 acc=none ->qO acc J (lE own caps σ) g tc te Q (upd H1 acc (.lst []))
section
variable{X:Cx}{sc:Scope}{own:List Str}{caps:List Nat}{N' :List Str}{elt tg iter:Expr}{ifs:List Expr}{pos:Pos}{wi:TI}{g:TG}{tc:TT}{te:TE}
theorem Gx(S:dM X.N sc own caps X.env N')(hi:K9 X tg iter wi)
  (hg:∀C s₀ H₀ fp,PG (blk X sc N' C s₀ H₀ fp) tg g) (ht:∀C s₀ H₀ fp,Gv (blk X sc N' C s₀ H₀ fp) ifs tc) (he:∀C s₀ H₀ fp,PE (blk X sc N' C s₀ H₀ fp) elt te)
  (ee:e= .ListComp elt [⟨tg,iter,ifs,0⟩] sc pos) (hs:∀x,foldedSetIterable iter X.env x=pure x)
  (I:Inv X pins σ H s) (h:Bv own.length caps wi g tc te σ H Q)
  (fin:∀acc C H' s5,Inv X pins σ H' s5 ->Q (.ref acc) H' ->(∃m,s5.heap.Ns C m) ->H' C=none ->C≠X.env.locals ->X.s₀.heap.objs.size<=C ->(∀x c,X.env.cells.lookup x=some c ->c≠C) ->(∀p∈X.pn++pins,p.1≠C) ->C∉X.fs ->
   compPost (model X.prog X.w) X.A X.xe use Qv (.ref acc) C (.ok .next) s5):
  wpAny (model X.prog X.w) X.A (comprehension e sc X.env ps (newList []) false (eval iter X.env) use) Qv X.xe s:=by
 subst ee;refine wpAny_comprehension_free (g:=⟨tg,iter,ifs,0⟩) (gs:= []) (cl:=iC X.env sc.names []) rfl hs (zuc (Gs I S)) S.kind ?_ (aY (hi pins s σ H _ I h) fun v s1 h1=>aY h1 fun itv s2 h2=> ?_)
 ·intro p hp hk;have nd:=S.snd;rw[List.Nodup,List.pairwise_map] at nd;have d:∀(l:List (Str×NameKind)),(l.Pairwise fun a b=>a.1≠b.1) ->p∈l ->l.lookup p.1=some .local:=by
   intro l;induction l with
   | nil=>intro _ h;cases h
   | cons a r ih=>
    intro K5 h1;obtain⟨p1,p2⟩:=List.pairwise_cons.mp K5;rcases zV.mp h1 with e1 | h1
    ·subst e1;rw[List.lookup_cons];simp [hk]
    ·have hb:(p.1==a.1)=false:=by rw[beq_eq_false_iff_ne];exact Ne.symm (p1 p h1)
     rw[List.lookup_cons,hb];exact ih p2 h1
  exact d _ nd hp
 obtain⟨it,fp,tn,J,H2,cm,rfl,I2,T,st2,f2,R2,hcm⟩:=h2;have hp0:=I2.fresh;refine wpAny_newObj_type ?_;have I3:=I2.lnew (its:= []) (ys:= []) (t' :=s2.toks) .nil (Nat.zero_le _);generalize hacc:s2.heap.objs.size=acc at*;obtain⟨W,⟨m0,w0⟩,turn⟩:=R2 acc hp0;have f3:∀b∈fp,fH X pins (upd H2 acc (.lst [])) b:=fun b hb=>by
  refine⟨?_,(f2 b hb).2⟩;obtain⟨o,eo,_⟩:=T.obj _ _ st2 b hb;rw[bC (Nat.ne_of_lt (by rw[<- hacc];exact Heap.lt_size eo))]
  exact(f2 b hb).1
 have hc:∀C s₀,cm (blk X sc N' C s₀ (upd H2 acc (.lst [])) fp):=fun C s₀=>hcm _ rfl rfl fun b o u e=>by rw[show(blk X sc N' C s₀ (upd H2 acc (.lst [])) fp).H₀=upd H2 acc (.lst []) from rfl,bC (eO e hp0)];exact e
 have hlt:∀b∈fp,b< (s2.heap.push {cls:= .type "list",data:= .seq ([]:List Value).toArray}).objs.size:=fun b hb=>by
  obtain⟨o,eo,_⟩:=T.obj _ _ st2 b hb;rw[Heap.size_push];exact Nat.lt_succ_of_lt (zK eo)
 have st3:tn 0 (s2.heap.push {cls:= .type "list",data:= .seq ([]:List Value).toArray}):=T.keep _ _ _ st2 fun b hb o e=>z8 _ e;refine zom ?_;show codeAny _ _ (.compStart (.ListComp elt [⟨tg,iter,ifs,0⟩] sc pos) 0 (.ref it) (.ref acc) (dO sc (s2.heap.push {cls:= .type "list",data:= .seq ([]:List Value).toArray}).objs.size X.env)) (compPost _ _ _ use Qv (.ref acc) (s2.heap.push {cls:= .type "list",data:= .seq ([]:List Value).toArray}).objs.size) _;generalize hs3:({s2 with heap:=s2.heap.push {cls:= .type "list",data:= .seq ([]:List Value).toArray},toks:=s2.toks}:Shared)=s3 at*;have hh3:s2.heap.push {cls:= .type "list",data:= .seq ([]:List Value).toArray}=s3.heap:=by rw[<- hs3]
 have aap :({s2 with heap:=s2.heap.push {cls:= .type "list",data:= .seq ([]:List Value).toArray}}:Shared)=s3:=by rw[<- hs3]
 rw[hh3] at hlt st3⊢;have I4:=zq1 I3 S f3 hlt;have Tq:tn 0 (pushCells (s3.heap.push {cls:= .type "dict",data:= .dict #[]}) sc.names):=T.keep _ _ _ st3 fun b hb o e=>pushCells_keeps _ _ b o (z8 _ e);have key:codeAny (model X.prog X.w) X.A (.compLoop (.ListComp elt [⟨tg,iter,ifs,0⟩] sc pos) 0 (.ref it) (.ref acc) (dO sc s3.heap.objs.size X.env)) (compPost (model X.prog X.w) X.A X.xe use Qv (.ref acc) s3.heap.objs.size)
   {s3 with heap:=pushCells (s3.heap.push {cls:= .type "dict",data:= .dict #[]}) sc.names}:=by
  have stat:∀{H' :Hp},(∀b∈fp,H' b=none) ->∀b∈fp,fH (blk X sc N' s3.heap.objs.size s3 (upd H2 acc (.lst [])) fp) [] H' b:=fun hn b hb=>
   ⟨hn b hb,(I4.ok.Eo b hb).1,I4.ok.qw b hb,.inl hb,(I4.ok.Eo b hb).2,fun p hp=>absurd (show p∈ ([]:aV) from hp) (by simp)⟩
  refine zo9 (fun n s' =>∃i vs σ' H',Inv (blk X sc N' s3.heap.objs.size s3 (upd H2 acc (.lst [])) fp) [] σ' H' s' /\tn i s'.heap/\ (∀b∈fp,H' b=none)/\W i n vs H') ?_ m0
   ⟨0,[],lE own.length caps σ,_,I4,Tq,fun b hb=>(f3 b hb).1,w0⟩
  rintro n s5 ⟨i,vs,σ5,H5,I5,yp,Ez,w5⟩;obtain⟨ha5,La,⟨stop,qn⟩ | ⟨go,hz,step⟩⟩:=turn i n vs H5 w5
  ·refine aY (T.done (blk X sc N' s3.heap.objs.size s3 (upd H2 acc (.lst [])) fp) rfl rfl rfl (hc _ _) i [] s5 σ5 H5 _ I5 (stat Ez) yp stop) fun r s6 ⟨hr,I6⟩=> ?_;subst hr;have IX:Inv X pins σ H5 s6:=I3.call' (ch:=fp) I6.os I6.base I6.hok I6.bare fun b hb=>⟨(f3 b hb).2.2.2.1,(f3 b hb).2.1,(f3 b hb).2.2.2.2.1,(f3 b hb).2.2.2.2.2⟩;obtain⟨m6,hn6,_⟩:=I6.loc;refine fin acc s3.heap.objs.size H5 s6 IX qn ⟨m6,hn6⟩ I6.free (Nat.ne_of_gt I3.lt) I3.sz (fun x c e z=> ?_) (fun p hp z=> ?_) (I3.nofs (zO _))
   ·obtain⟨v,q⟩:=I3.cell x c e;exact absurd q.lt (by rw[z];exact zG _)
   ·exact absurd (zK (I3.pin p hp).1) (by rw[z];exact zG _)
  ·
   have Jc :Inv (blk X sc N' s3.heap.objs.size s3 (upd H2 acc (.lst [])) fp) [] (lE own.length caps σ) H5 s5:=zq4 I3 S f3 I5;refine aY (T.item (blk X sc N' s3.heap.objs.size s3 (upd H2 acc (.lst [])) fp) rfl rfl rfl (hc _ _) i [] s5 _ H5 _ Jc (stat Ez) yp go) fun r s6 ⟨u,hr,h6⟩=> ?_;subst hr;refine aY h6 fun _ s7 hq2=> ?_;obtain⟨x,H7,I7,r7,y7,Lb,fr7⟩:=hq2;have I7' :=I7.pinned (stat fr7) (T.obj _ _ Lb);refine aY (hg _ _ _ _ _ s7 _ H7 x u _ I7' r7 (step x H7 y7)) fun _ s8 ⟨σ8,H8,I8,q8⟩=> ?_;refine aY (ht _ _ _ _ _ s8 σ8 H8 _ I8 q8) fun b s9 ⟨H9,I9,q9⟩=> ?_;have again:∀{vs' :List V} {σ' :St} {H' :Hp} {s' :Shared},Inv (blk X sc N' s3.heap.objs.size s3 (upd H2 acc (.lst [])) fp) ([]++jz fp s7.heap) σ' H' s' ->(∃m',m' <n/\W (i+1) m' vs' H') ->
     ∃m,m<n/\∃i vs σ' H',Inv (blk X sc N' s3.heap.objs.size s3 (upd H2 acc (.lst [])) fp) [] σ' H' s' /\tn i s'.heap/\ (∀b∈fp,H' b=none)/\W i m vs H' :=fun{vs' σ' H' s'} I' ⟨m',hm,w'⟩=>by
    refine⟨m',hm,i+1,vs',σ',H',I'.unpinned,T.keep _ _ _ Lb fun b hb o e=>(I'.pin (b,o) (zR _ (zR _ (Ew hb e)))).1,fun b hb=> ?_,w'⟩;obtain⟨o,e,d⟩:=T.obj _ _ Lb b hb;exact(I'.pin (b,o) (zR _ (zR _ (Ew hb e)))).2.1
   cases b with
   | false=>
    rw[if_neg Bool.false_ne_true] at q9⊢;exact again I9 q9
   | true=>
    rw[if_pos rfl] at q9⊢;refine aY (he _ _ _ _ _ s9 σ8 H9 _ I9 q9) fun y s10 pN=> ?_;obtain⟨v,Tr,I10,r10,wH,q10⟩:=pN;refine aY (JC (X:=blk X sc N' s3.heap.objs.size s3 (upd H2 acc (.lst [])) fp) _ s10 σ8 Tr (.ref acc) [v] (.ref acc) [y] (fun _ H' =>H' =upd Tr acc (.lst (vs++ [v]))) I10 rfl (.cons r10 .nil) ⟨acc,vs,v,rfl,rfl,wH,hz,rfl⟩) fun _ s11 ou=> ?_;obtain⟨_,H11,I11,_,e11⟩:=ou;subst e11;exact again I11 q10
 exact codeAny_compStart_list key (T.self _ _ _ _ _ Tq key)
end
def wJ(K:W.Frag)(F Hx:Hp)(J:It)(ds:List D):Prop:=ds.length<=sizeLine/\∀(i:Nat) (H1 F1:Hp),Same F F1 ->Same F1 H1 ->Same Hx H1 ->
 (i=ds.length ->J.stop i H1)/\∀d,ds[i]?=some d ->J.go i H1/\∀x H',J.yld i H1 x H' ->∃F2,Gr F1 H1 F2 H' /\Rep K F2 d x
def Bw:Hp:=fun _=>none
theorem Tt:Same Bw H:=fun _ _ e=>by cases e
def Tv(K:W.Frag)(F0 H0:Hp)(t:aO)(E:XW):TI:=fun σ H R=>∃F Γ P,SR K F0 H0 F H σ Γ/\t Γ P E/\∀ds Γ' F' H' J Hx,SR K F0 H0 F' H' σ Γ' ->Same F F' ->Same Hx H' ->wJ K F' Hx J ds ->P ds Γ' ->R J H'
def Ld(K:W.Frag)(F0 H0:Hp)(t:aO)(E:XW):TI:=fun σ H R=>∃F Γ P,SR K F0 H0 F H σ Γ/\t Γ P E/\∀ds Γ' F' H' J,SR K F0 H0 F' H' σ Γ' ->Same F F' ->wJ K F' Bw J ds ->P ds Γ' ->R J H'
def QI(X:Cx)(F0 H0:Hp)(tg e:Expr)(t:aO):Prop:=∀z E,Ctx (X.wsh z) F0 H0 E ->PI (X.wsh z) tg e (Ld X.K F0 H0 t E)
def Bx(X:Cx)(F0 H0:Hp)(tg e:Expr)(t:aO):Prop:=∀z E,Ctx (X.wsh z) F0 H0 E ->PI (X.wsh z) tg e (Tv X.K F0 H0 t E)
theorem Gy(h:PI X tg e t)(hi:∀σ H R,t' σ H R ->t σ H R):PI X tg e t' :=fun pins s σ H R I q=>h pins s σ H R I (hi _ _ _ q)
theorem tO(h:QI X F0 H0 tg e t):Bx X F0 H0 tg e t:=fun z E cx=>Gy (h z E cx) fun σ H R hq1=>by obtain⟨F,Γ,P,S,q,k⟩:=hq1;exact⟨F,Γ,P,S,q,fun ds Γ' F' H' J S' s' hJ hp=>k ds Γ' F' H' J Bw S' s' Tt hJ hp⟩
def BJ(K:W.Frag)(tl:TE):TI:=fun σ H R=>tl σ H fun x H1=>∃a,x= .ref a/\ ((∃xs,dW K H1 a xs/\ (xs.length<=sizeLine ->R (vX K a) H1))\/ (∃xs,iw K H1 a xs/\ (xs.length<=sizeLine ->R (uY K a) H1)))
theorem zt3(hl:PE X l tl):PI X tg l (BJ X.K tl):=by
 intro pins s σ H R I h;refine aY (hl pins s σ H _ I h) fun v s1 hq2=> ?_;obtain⟨x,H1,I1,r1,q1⟩:=hq2;obtain⟨a,e,q⟩:=q1;subst e;cases r1;rcases q with ⟨xs,hq,q⟩ | ⟨xs,hq,q⟩
 ·obtain⟨its,rv,p,hz⟩:=I1.list hq;refine wpAny_pyIter_list p.isList ?_;refine⟨s1.heap.objs.size,[s1.heap.objs.size],_,_,H1,rfl,I1.kept (t' :=s1.toks) fun b o e=>z8 _ e,Qz a _,⟨_,z9 _ rfl,rfl,rfl⟩,fun b hb=> ?_,q hz⟩;obtain rfl:b=s1.heap.objs.size:=by simpa using hb
  exact I1.fpOk (zO _) (I1.hok.fresh (zO _))
 ·obtain⟨its,rv,p,hz⟩:=I1.tuple hq;refine wpAny_pyIter_tuple (show s1.heap.IsTuple a its.toArray from p) ?_;refine⟨s1.heap.objs.size,[s1.heap.objs.size],_,_,H1,rfl,I1.kept (t' :=s1.toks) fun b o e=>z8 _ e,QB a _,⟨_,z9 _ rfl,rfl,rfl⟩,fun b hb=> ?_,q hz⟩;obtain rfl:b=s1.heap.objs.size:=by simpa using hb
  exact I1.fpOk (zO _) (I1.hok.fresh (zO _))
theorem zvq{K:W.Frag}{F Hx:Hp}{a:Addr}{vs:List V}{ds:List D}(hq:∀H1,Same F H1 ->iw K H1 a vs)(rs:ak K F ds vs)(hz:vs.length<=sizeLine):wJ K F Hx (uY K a) ds:=by
 have hl:=fY rs;refine⟨by omega,fun i H1 F1 s1 s2 s3=>⟨fun e=>⟨vs,hq H1 (s1.trans s2),by omega⟩,fun d hd=> ?_⟩⟩
 obtain⟨v,hv,rv⟩:=o9 rs hd;refine⟨⟨vs,v,hq H1 (s1.trans s2),hv⟩,fun x H' y=> ?_⟩;obtain⟨rfl,y⟩:=y;have:=y vs (hq _ (s1.trans s2));rw[hv] at this;cases this;exact⟨F1,Gr.refl s2,rv.up s1⟩
def iL(te:aB):aO:=fun Γ P E=>te Γ (fun d Γ1=>match d with | .lst ds=>P ds Γ1 | .tup ds=>P ds Γ1 | _=>False) E
section
variable{X:Cx}{F0 H0:Hp}{e tg:Expr}{es:List Expr}{pos:Pos}{te:aB}{g:iQ}{gs:kj}{ti:aO}{tb:aq}
theorem uG(h:QE X F0 H0 e te):QI X F0 H0 tg e (iL te):=fun z E cx=>Gy (zt3 (h z E cx)) fun σ H R pN=>by obtain⟨F,Γ,P,S,q,k⟩:=pN;exact⟨F,Γ,_,S,q,fun d Γ1 F1 H1 v R1 s1 r1 h1=>by
 cases d with
 | lst ds=>
  unfold Rep at r1;obtain⟨a,vs,rfl,hq,rs⟩:=r1;refine⟨a,rfl,.inl ⟨vs,R1.g.seq hq,fun hz=>k ds Γ1 F1 H1 _ R1 s1 ?_ h1⟩⟩;refine⟨by rw[fY rs];exact hz,fun i H2 F2 s2 s3 s4=>⟨fun e=>⟨vs,s3.seq (s2.seq hq),by rw[e,fY rs];exact zO _⟩,fun d hd=> ?_⟩⟩
  obtain⟨v,hv,rv⟩:=o9 rs hd;refine⟨⟨vs,v,s3.seq (s2.seq hq),hv⟩,fun x H' y=> ?_⟩;obtain⟨rfl,y⟩:=y;have:=y vs (s3.seq (s2.seq hq));rw[hv] at this;cases this;exact⟨F2,Gr.refl s3,rv.up s2⟩
 | tup ds=>
  unfold Rep at r1;obtain⟨a,vs,rfl,hq,rs⟩:=r1;exact⟨a,rfl,.inr ⟨vs,jy R1.g hq,fun hz=>k ds Γ1 F1 H1 _ R1 s1 (zvq (fun H2 s=>jy s hq) rs hz) h1⟩⟩
 | _=>exact False.elim h1⟩
def qP(ti:aO)(g:iQ)(tb:aq):aq:=fun D0 Γ E=>ti Γ (fun ds Γ1=>lg ds g tb D0 E Γ1) E
theorem zvg(hc:X.calm=true)(hi:QI X F0 H0 tg iter ti)(hg:QG X F0 H0 tg g)(hb:lY X F0 H0 body tb)(hs:∀x,foldedSetIterable iter X.env x=pure x:=by intro _;rfl):
  QS X F0 H0 (.For tg iter body [] pos) (qP ti g tb):=fun z E cx=>
 j9 (Ey (X:=X.wsh z) cx.po hc (hi z E cx) (hg z E cx) (hb z E cx) hs) fun Dn σ H ou=>by obtain⟨F,Γ,D2,R,h,k⟩:=ou;exact⟨F,Γ,_,R,h,fun ds Γ1 F1 H1 J R1 s1 hJ h1=>by
  obtain⟨I,i0,turn,done⟩:=h1;refine⟨fun i m σ H=>m=ds.length - i/\i<=ds.length/\∃F2 Γ2,SR X.K F0 H0 F2 H σ Γ2/\Same F1 F2/\I i Γ2,⟨ds.length,by simp,Nat.zero_le _,F1,Γ1,R1,.refl _,i0⟩,?_⟩
  rintro i m σ H ⟨rfl,hi,F2,Γ2,R2,s2,hI⟩;obtain⟨hstop,hgo⟩:=hJ.2 i H F2 s2 R2.g Tt;by_cases hlt:i<ds.length
  ·obtain⟨go,yl⟩:=hgo ds[i] (zZ hlt);refine .inr ⟨go,fun σ H=>∃F2 Γ2,SR X.K F0 H0 F2 H σ Γ2/\Same F1 F2/\I (i+1) Γ2,fun σ' H' p' =>⟨ds.length - (i+1),by omega,rfl,hlt,p'⟩,fun x H' y=> ?_⟩
   obtain⟨F3,gr,rx⟩:=yl x H' y;exact⟨F3,Γ2,_,ds[i],R2.grow gr,rx,turn i ds[i] Γ2 (zZ hlt) hI,fun Γ4 F4 H4 σ4 R4 s4 p=>⟨F4,Γ4,{D2 with nx:=I (i+1),ct:=I (i+1),bk:=D2.nx},R4,p,⟨fun Γ5 F5 H5 σ5 R5 s5 q=>⟨F5,Γ5,R5,s2.trans (gr.f.trans (s4.trans s5)),q⟩,
    fun Γ5 F5 H5 σ5 R5 s5 q=>k.nx _ _ _ _ R5 (s1.trans (s2.trans (gr.f.trans (s4.trans s5)))) q,fun Γ5 F5 H5 σ5 R5 s5 q=>⟨F5,Γ5,R5,s2.trans (gr.f.trans (s4.trans s5)),q⟩,k.rt,k.rf,k.rT,k.rm⟩⟩⟩
  ·obtain rfl:i=ds.length:=by omega
   exact .inl ⟨hstop rfl,k.nx _ _ _ _ R2 (s1.trans s2) (done _ hI)⟩⟩
def qQ(Γ:G2)(j:Nat):Slot:=match Γ[j]? with | some (.pu d)=> .pu d | _=> .no
def gP(own:Nat)(caps:List Nat)(Γ:G2):G2:=List.replicate own .no++caps.map (qQ Γ)
theorem Tw{K:W.Frag}{F H:Hp}{σ:St}{Γ:G2}(own:Nat)(caps:List Nat)(R:SR K F0 H0 F H σ Γ):SR K F H F H (lE own caps σ) (gP own caps Γ):=by
 have len:(lE own caps σ).length=(gP own caps Γ).length:=by simp [lE,gP]
 have wK:∀(i:Nat) s o a,(gP own caps Γ)[i]?=some s ->¬dN s o a:=fun i s o a e=>by
  unfold gP at e;by_cases hi:i<own
  ·rw[List.getElem?_append_left (by simpa using hi),List.getElem?_replicate] at e
   rw[if_pos hi] at e;cases e;exact fun h=>h
  ·rw[List.getElem?_append_right (by simpa using hi),List.getElem?_map] at e
   cases q:caps[i - (List.replicate own Slot.no).length]? with
   | none=>rw[q] at e;cases e
   | some j=>
    rw[q] at e;have e' :qQ Γ j=s:=by simpa using e
    unfold qQ at e';split at e' <;>(subst e';exact fun h=>h)
 refine⟨Gr.refl R.g,len,fun i s e=> ?_,fun i j a uo=>by obtain⟨s,o,e,_,h⟩:=uo;exact absurd h (wK i s o a e)⟩
 by_cases hi:i<own
 ·refine⟨none,?_,?_⟩
  ·unfold lE;rw[List.getElem?_append_left (by simpa using hi),List.getElem?_replicate,if_pos hi]
  ·unfold gP at e;rw[List.getElem?_append_left (by simpa using hi),List.getElem?_replicate,if_pos hi] at e
   cases e;trivial
 ·unfold gP at e;rw[List.getElem?_append_right (by simpa using hi),List.getElem?_map,List.length_replicate] at e
  cases q:caps[i - own]? with
  | none=>rw[q] at e;cases e
  | some j=>
   rw[q] at e;have e' :qQ Γ j=s:=by simpa using e
   refine⟨(σ[j]?).join,?_,?_⟩
   ·unfold lE;rw[List.getElem?_append_right (by simpa using hi),List.getElem?_map,List.length_replicate,q];rfl
   ·unfold qQ at e';split at e'
    ·rename_i d hd;subst e';obtain⟨o,e1,v,rfl,rv⟩:=R.sl j _ hd;exact⟨v,by rw[e1];rfl,rv⟩
    ·subst e';trivial
def uH(g:iQ)(tc:TT2)(te:aB)(Γ0:G2)(x:D)(P:List D ->Prop):Prop:=g x Γ0 (fun Γ1=>tc Γ1 (fun b Γ2=>if b=true then te Γ2 (fun d _=>P [d]) dX else P []) dX) dX
def cL(one:D ->(List D ->Prop) ->Prop):List D ->(List D ->Prop) ->Prop
 | [],P=>P []
 | x::xs,P=>one x fun ys=>cL one xs fun zs=>P (ys++zs)
def dZ(own:Nat)(caps:List Nat)(ti:aO)(g:iQ)(tc:TT2)(te:aB):aO:=fun Γ P E=>ti Γ (fun ds Γ1=>cL (uH g tc te (gP own caps Γ1)) ds fun ys=>P ys Γ1) E
def mD:TT2:=fun Γ P _=>P true Γ
def wL(X:Cx)(F0 H0:Hp)(ifs:List Expr)(t:TT2):Prop:=∀z E,Ctx (X.wsh z) F0 H0 E ->Gv (X.wsh z) ifs (Ax X.K F0 H0 t E)
theorem BK:wL X F0 H0 [] mD:=fun z E cx pins s σ H Q I Bg=>by obtain⟨F,Γ,P,R,h,k⟩:=Bg;exact zt8 pins s σ H Q I (k _ _ _ _ R (.refl _) h)
theorem BL(h:QT X F0 H0 c t):wL X F0 H0 [c] t:=fun z E cx=>zu2 (h z E cx)
end
section
variable{X:Cx}{F0 H0:Hp}{elt tg iter:Expr}{ifs:List Expr}{sc:Scope}{own:List Str}{caps:List Nat}{N' :List Str}{pos:Pos}{te:aB}{g:iQ}{tc:TT2}{ti:aO}
def gX(K:W.Frag)(g:iQ):TG:=fun v σ H Q=>∃F0 H0,FJ K F0 H0 g dX v σ H Q
def tX(K:W.Frag)(t:TT2):TT:=fun σ H Q=>∃F0 H0,Ax K F0 H0 t dX σ H Q
def eX(K:W.Frag)(t:aB):TE:=fun σ H Q=>∃F0 H0,qH K F0 H0 t dX σ H Q
theorem Gz(gr:Gr F H F' H')(h:F a=none)(e:H a=some (.lst vs)):F' a=none:=by
 cases q:F' a with
 | none=>rfl
 | some u=>
  rcases gr.n a u q h with z | ⟨⟨xs,e'⟩,z⟩
  ·rw[e] at z;cases z
  ·rw[e] at z;cases z;cases e'
theorem Le{K:W.Frag}{F H:Hp}{σ:St}{Γ:G2}{J:It}{Hx:Hp}{ds:List D}{acc:Addr}{P:List D ->Prop}{Q:V ->Hp ->Prop}(R:SR K F0 H0 F H σ Γ)(hJ:wJ K F Hx J ds)(hx:Same Hx H)(ha:H acc=none)
  (h:cL (uH g tc te (gP own.length caps Γ)) ds P)
  (fin:∀ys F' H' vs,SR K F0 H0 F' H' σ Γ ->Same F F' ->H' acc=some (.lst vs) ->F' acc=none ->H0 acc=none ->ak K F' ys vs ->Apart σ Γ acc ->P ys ->Q (.ref acc) H'):
  qO acc J (lE own.length caps σ) (gX K g) (tX K tc) (eX K te) Q (upd H acc (.lst [])):=by
 obtain⟨R1,e1,e2,e3,ap⟩:=uq (ds:= []) (vs:= []) R ha (by unfold ak;rfl)
 have hx1:Same Hx (upd H acc (.lst [])):=fun b u e=>by rw[bC (eO (hx b u e) ha)];exact hx b u e
 have xa:∀u,Hx acc≠some u:=fun u e=>by rw[hx acc u e] at ha;cases ha
 refine⟨fun i m vs H' =>m=ds.length - i/\i<=ds.length/\∃F' ys,SR K F0 H0 F' H' σ Γ/\Same F F' /\Same Hx H' /\H' acc=some (.lst vs)/\F' acc=none/\ak K F' ys vs/\vs.length<=i/\cL (uH g tc te (gP own.length caps Γ)) (ds.drop i) (fun zs=>P (ys++zs)),
  ⟨ds.length,by simp,Nat.zero_le _,F,[],R1,.refl _,hx1,e1,e2,by unfold ak;rfl,zO _,by simpa using h⟩,?_⟩
 rintro i m vs H' ⟨rfl,hi,F',ys,R',sF,hx',ha',wM,rs,lv,hc⟩;have hz:=hJ.1;refine⟨ha',by omega,?_⟩
 obtain⟨hstop,hgo⟩:=hJ.2 i H' F' sF R'.g hx';by_cases hlt:i<ds.length
 ·obtain⟨go,yl⟩:=hgo ds[i] (zZ hlt);refine .inr ⟨go,by omega,fun x H2 y=> ?_⟩
  obtain⟨F2,gr,rx⟩:=yl x H2 y;rw[List.drop_eq_getElem_cons hlt] at hc;have R2:=R'.grow gr;refine⟨F2,H2,F2,gP own.length caps Γ,_,ds[i],Tw own.length caps R2,rx,hc,fun Γ3 F3 H3 σ3 R3 s3 q3=> ?_⟩;refine⟨F2,H2,F3,Γ3,_,R3,q3,fun b Γ4 F4 H4 R4 s4 q4=> ?_⟩;have jE:Gr F' H' F4 H4:=gr.trans R4.gr;cases b with
  | false=>
   rw[if_neg Bool.false_ne_true] at q4;show∃m',m' <ds.length - i/\_;refine⟨ds.length - (i+1),by omega,rfl,hlt,F4,ys,R'.grow jE,sF.trans jE.f,fun b u e=>jE.h b u (hx' b u e),jE.h _ _ ha',Gz jE wM ha',rs.up jE.f,by omega,?_⟩
   simpa using q4
  | true=>
   rw[if_pos rfl] at q4;show eX K te σ3 H4 _;refine⟨F2,H2,F4,Γ4,_,R4,q4,fun d Γ5 F5 H5 v R5 s5 rv q5=> ?_⟩;have nJ:Gr F' H' F5 H5:=gr.trans R5.gr;have a5:=nJ.h _ _ ha';have f5:=Gz nJ wM ha';refine⟨a5,ds.length - (i+1),by omega,rfl,hlt,F5,ys++ [d],?_,sF.trans nJ.f,fun b u e=> ?_,iu,f5,yt (rs.up nJ.f) (yu rv),by simp;omega,?_⟩
   ·have R6:=R'.grow nJ;refine⟨⟨R6.gr.f,fun b u e=> ?_,fun b u e=> ?_,R6.gr.n⟩,R6.len,fun j sl e=> ?_,R6.ap⟩
    ·rw[bC (eO e f5)];exact R6.g b u e
    ·rw[bC (eO e e3)];exact R6.gr.h b u e
    ·obtain⟨o,p1,p2⟩:=R6.sl j sl e;refine⟨o,p1,Aw p2 (.refl _) fun c hc=>⟨(pL p2 hc).1,fun u q=> ?_⟩⟩;have:c≠acc:=fun z=>by subst z;exact ap j ⟨sl,o,e,p1,hc⟩
     rw[bC this];exact q
   ·rw[bC (fun z=>xa u (by rw[<- z];exact e))];exact nJ.h b u (hx' b u e)
   ·simpa [List.append_assoc] using q5
 ·obtain rfl:i=ds.length:=by omega
  refine .inl ⟨hstop rfl,fin ys F' H' vs R' sF ha' wM e3 rs ap ?_⟩;rw[List.drop_length] at hc
  simpa [cL] using hc
structure dR (N:List Str) (sc:Scope) (own:List Str) (caps:List Nat) (BP:Scope) (N' :List Str):Prop where
 kind:sc.kind= .function
 nd:N'.Nodup
 snd:(sc.names.map (·.1)).Nodup
 free:∀p∈sc.names,p.2= .free ->BP.names.lookup p.1=some .cell\/BP.names.lookup p.1=some .free
 names:N' =own++caps.map fun j=>N.getD j ""
 caps:∀j∈caps,j<N.length/\sc.names.lookup (N.getD j "")=some .free
theorem dR.cs(h:dR X.N sc own caps X.env.scope N'):dM X.N sc own caps X.env N' :=⟨h.kind,h.nd,h.snd,h.free,h.names,h.caps⟩
def QIg(X:Cx)(F0 H0:Hp)(tg e:Expr)(t:aO):Prop:=∀z E,Ctx (X.wsh z) F0 H0 E ->K9 (X.wsh z) tg e (Tv X.K F0 H0 t E)
theorem zsv(S:dR X.N sc own caps X.env.scope N')(hi:QIg X F0 H0 tg iter ti)
  (hg:∀C s₀ H₀ fp F0 H0,QG (blk X sc N' C s₀ H₀ fp) F0 H0 tg g) (ht:∀C s₀ H₀ fp F0 H0,wL (blk X sc N' C s₀ H₀ fp) F0 H0 ifs tc) (he:∀C s₀ H₀ fp F0 H0,QE (blk X sc N' C s₀ H₀ fp) F0 H0 elt te)
  (hn:own.length=n:=by rfl) (hs:∀x,foldedSetIterable iter X.env x=pure x:=by intro _;rfl):QF X F0 H0 (.ListComp elt [⟨tg,iter,ifs,0⟩] sc pos) (dZ n caps ti g tc te):=by
 subst hn;rintro z E cx pins s σ H Q I ⟨F,Γ,P,R,h,k⟩;rw[show eval (.ListComp elt [⟨tg,iter,ifs,0⟩] sc pos) (X.wsh z).env=comprehension (.ListComp elt [⟨tg,iter,ifs,0⟩] sc pos) sc X.env _ (newList []) false (eval iter X.env) from eval_ListComp ..];refine Gx (X:=X.wsh z) (g:=gX X.K g) (tc:=tX X.K tc) (te:=eX X.K te) (Q:=Q) (dR.cs (X:=X.wsh z) S) (hi z E cx) ?_ ?_ ?_ rfl hs I ?_ ?_
 ·rintro C s₀ H₀ fp pins s σ H v u Q I r ⟨jF,jG,q⟩;exact hg C s₀ H₀ fp jF jG ⟨fun _ _=>False,[]⟩ dX pW pins s σ H v u Q I r q
 ·rintro C s₀ H₀ fp pins s σ H Q I ⟨jF,jG,q⟩;exact ht C s₀ H₀ fp jF jG ⟨fun _ _=>False,[]⟩ dX pW pins s σ H Q I q
 ·rintro C s₀ H₀ fp pins s σ H Q I ⟨jF,jG,q⟩;exact he C s₀ H₀ fp jF jG ⟨fun _ _=>False,[]⟩ dX pW pins s σ H Q I q
 ·exact⟨F,Γ,_,R,h,fun ds Γ1 F1 H1 J Hx R1 s1 hx hJ h1 acc ha=>Le R1 hJ hx ha h1 fun ys F' H' vs R' sF a1 a2 a3 rs ap hp=>k ys Γ1 F' H' acc vs R' (s1.trans sF) a1 a2 a3 rs ap hp⟩
 ·rintro acc C H' s5 I5 q5 ⟨m,hn⟩ c1 c2 c3 c4 c5 c6;exact⟨m,hn,fun h' hs' =>⟨.ref acc,H',I5.turned (t' :=s5.toks) (it:=C) (fun b o hb e=>(hs'.2 b hb).trans e) c1 c2 (.inr c3) c4 c5,rfl,q5⟩⟩
theorem wN(S:dR X.N sc own caps X.env.scope N')(hc:X.calm=true)(hi:Bx X F0 H0 tg iter ti)
  (hg:∀C s₀ H₀ fp F0 H0,QG (blk X sc N' C s₀ H₀ fp) F0 H0 tg g) (ht:∀C s₀ H₀ fp F0 H0,wL (blk X sc N' C s₀ H₀ fp) F0 H0 ifs tc) (he:∀C s₀ H₀ fp F0 H0,QE (blk X sc N' C s₀ H₀ fp) F0 H0 elt te)
  (hn:own.length=n:=by rfl) (hs:∀x,foldedSetIterable iter X.env x=pure x:=by intro _;rfl):QF X F0 H0 (.ListComp elt [⟨tg,iter,ifs,0⟩] sc pos) (dZ n caps ti g tc te):=zsv S (fun z E cx=>Gw hc (hi z E cx)) hg ht he hn hs
theorem zt1(hN:X.N.Nodup)(hi' :X.N[i]?=some y)(hy:X.env.scope.names.lookup y=some .local)(S:dR X.N sc own caps X.env.scope N')(hc:X.calm=true)(hi:Bx X F0 H0 tg iter ti)
  (hg:∀C s₀ H₀ fp F0 H0,QG (blk X sc N' C s₀ H₀ fp) F0 H0 tg g) (ht:∀C s₀ H₀ fp F0 H0,wL (blk X sc N' C s₀ H₀ fp) F0 H0 ifs tc) (he:∀C s₀ H₀ fp F0 H0,QE (blk X sc N' C s₀ H₀ fp) F0 H0 elt te)
  (hn:own.length=n:=by rfl) (hsw:swapsWith (.ListComp elt [⟨tg,iter,ifs,0⟩] sc pos) (some (.Name y py)) spos.line X.env=pure true:=by rfl) (hs:∀x,foldedSetIterable iter X.env x=pure x:=by intro _;rfl):
  QS X F0 H0 (.Assign [.Name y py] (.ListComp elt [⟨tg,iter,ifs,0⟩] sc pos) spos) (eV i (dZ n caps ti g tc te)):=by
 subst hn;rintro z E cx pins s σ H Dn I ⟨F,Γ,D2,R,h,k⟩;show wpAny _ _ (exec (.Assign [.Name y py] (.ListComp elt [⟨tg,iter,ifs,0⟩] sc pos) spos) X.env) _ _ _;rw[exec_Assign_Name_used _ _ _ _ hsw];refine z6 (wpAny_standAt (z6 ?_));show wpAny _ _ (do let _<- comprehension (.ListComp elt [⟨tg,iter,ifs,0⟩] sc pos) sc X.env _ (newList []) false (eval iter X.env) (some (assign (.Name y py) X.env))) _ _ s;refine z6 (wpAny_mono (Gx (X:=X.wsh z) (use:=some (assign (.Name y py) X.env)) (Qv:=fun _ s' =>SP (X.wsh z) pins Dn .next s') (g:=gX X.K g) (tc:=tX X.K tc) (te:=eX X.K te) (Q:=fun v H' =>Dn.nx (σ.set i (some v)) H') (dR.cs (X:=X.wsh z) S) (Gw hc (hi z E cx)) ?_ ?_ ?_ rfl hs I ?_ ?_) (fun _ s' hq=>z7 (z7 hq)) fun _ _ e=>e)
 ·rintro C s₀ H₀ fp pins s σ H v u Q I r ⟨jF,jG,q⟩;exact hg C s₀ H₀ fp jF jG ⟨fun _ _=>False,[]⟩ dX pW pins s σ H v u Q I r q
 ·rintro C s₀ H₀ fp pins s σ H Q I ⟨jF,jG,q⟩;exact ht C s₀ H₀ fp jF jG ⟨fun _ _=>False,[]⟩ dX pW pins s σ H Q I q
 ·rintro C s₀ H₀ fp pins s σ H Q I ⟨jF,jG,q⟩;exact he C s₀ H₀ fp jF jG ⟨fun _ _=>False,[]⟩ dX pW pins s σ H Q I q
 ·exact⟨F,Γ,_,R,h,fun ds Γ1 F1 H1 J Hx R1 s1 hx hJ h1 acc ha=>Le R1 hJ hx ha h1 fun ys F' H' vs R' sF a1 a2 a3 rs ap hp=>k.nx _ _ _ _ (R'.setOw i a1 a2 a3 rs ap) (s1.trans sF) hp⟩
 ·rintro acc C H' s5 I5 q5 ⟨m,hn⟩ c1 c2 c3 c4 c5 c6;show wpAny _ _ (assign (.Name y py) X.env (.ref acc)) _ _ _;refine wpAny_assign_Name (HY (X:=X.wsh z) I5 hN hi' (.inl hy) (v:= .ref acc) rfl (fun s6 I6 ⟨a,hsb,ha⟩=> ?_) (.inr hy));have ha' :a=X.env.locals\/X.env.cells.lookup y=some a:=ha;have hac:C≠a:=by
   rcases ha' with rfl | ha'
   ·exact c2
   ·exact fun z=>c4 y a ha' z.symm
  refine⟨m,hn.sameBut hsb hac,fun h' hs' =>⟨_,H',I6.turned (t' :=s6.toks) (it:=C) (fun b o hb e=>(hs'.2 b hb).trans e) c1 c2 (.inr c3) c4 c5,q5⟩⟩
end
def wO(K:W.Frag)(g:List D ->(List D ->Prop) ->Prop):List V ->Hp ->VK ->Prop:=fun vs H Q=>∃F ds P,Same F H/\ak K F ds vs/\g ds P/\∀es us l,ak K F es us ->H l=none ->P es ->Q (.ref l) (upd H l (.lst us))
section
variable{X:Cx}{F0 H0:Hp}{a b e:Expr}{es:List Expr}{pos p p2:Pos}{ta tb te:aB}{t:aO}{x:Str}
def qR(g:List D ->(List D ->Prop) ->Prop)(t:aO):aO:=fun Γ P E=>t Γ (fun ds Γ1=>g ds fun es=>P es Γ1) E
theorem zwh{K:W.Frag}{g:List D ->(List D ->Prop) ->Prop}{E:XW}{σ:St}{H:Hp}{Q:VK}(h:J2 K F0 H0 (qR g t) E σ H Q):Ag (wO K g) (Ay K F0 H0 t E) σ H Q:=by
 obtain⟨F,Γ,P,R,h,k⟩:=h;refine⟨F,Γ,_,R,h,fun ds Γ1 F1 H1 vs R1 s1 r1 h1=>⟨F1,ds,_,R1.g,r1,h1,fun es us l r hl hp=> ?_⟩⟩;obtain⟨R2,e1,e2,e3,ap⟩:=uq R1 hl r;exact k es Γ1 F1 _ l us R2 s1 e1 e2 e3 r ap hp
theorem Lf{T:String}{g:List D ->(List D ->Prop) ->Prop}(hc:∀z,bK (X.wsh z) (.type T) (wO X.K g))(hg:Gl X x)(hm:X.mg x=none)(hv:bootBuiltins x=some (.type T))(ha:QA X F0 H0 (e::es) t)(hn:x≠ "__name__" :=by decide)(hdb:(x==("__debug__" :Str))=false:=by decide)
  (he:starEach (e::es) X.env=(false,eval e X.env)::starEach es X.env:=by rfl) (hpl:(backTo pos (starEach es X.env)).any (·.1)=false:=by rfl):QF X F0 H0 (.Call (.Name x p) (e::es) [] pos) (qR g t):=fun z E cx=>
 jB (Js (X:=X.wsh z) (hc z) hg hm hv (ha z E cx) hn hdb he hpl) fun _ _ _ h=>zwh h
theorem Tz{T:String}{g:List D ->(D ->Prop) ->Prop}(hc:∀z,bK (X.wsh z) (.type T) (kO X.K g))(hg:Gl X x)(hm:X.mg x=none)(hv:bootBuiltins x=some (.type T))(ha:QA X F0 H0 (e::es) t)(hn:x≠ "__name__" :=by decide)(hdb:(x==("__debug__" :Str))=false:=by decide)
  (he:starEach (e::es) X.env=(false,eval e X.env)::starEach es X.env:=by rfl) (hpl:(backTo pos (starEach es X.env)).any (·.1)=false:=by rfl):QE X F0 H0 (.Call (.Name x p) (e::es) [] pos) (iB g t):=fun z E cx=>
 jB (Js (X:=X.wsh z) (hc z) hg hm hv (ha z E cx) hn hdb he hpl) fun _ _ _ h=>Tc h
end
def yL:List D ->(List D ->Prop) ->Prop:=fun ds P=>match ds with | [.lst xs]=>P xs | [.tup xs]=>P xs | _=>False
theorem Lg:bK X (.type "list") (wO X.K yL):=by
 rintro pins s σ H xs us Q I r ⟨F,ds,P,sF,rs,h,k⟩;unfold yL at h;split at h
 ·unfold ak ak Rep at rs;obtain⟨v,_,rfl,⟨p,vs,rfl,hq,rs⟩,rfl⟩:=rs;exact Ru pins s σ H _ us Q I r ⟨p,vs,rfl,.inl (sF.seq hq),fun l hl=>k _ _ l rs hl h⟩
 ·unfold ak ak Rep at rs;obtain⟨v,_,rfl,⟨p,vs,rfl,hq,rs⟩,rfl⟩:=rs;exact Ru pins s σ H _ us Q I r ⟨p,vs,rfl,.inr (jy sF hq),fun l hl=>k _ _ l rs hl h⟩
 ·exact h.elim
def zt2:List D ->(D ->Prop) ->Prop:=fun ds P=>match ds with | [.lst xs]=>P (.tup xs) | [.tup xs]=>P (.tup xs) | _=>False
def cutD(xs:List D)(lo hi:Option Int):List D:=(xs.drop (HT.sIx xs.length 0 lo)).take (HT.sIx xs.length xs.length hi - HT.sIx xs.length 0 lo)
theorem zs0{K:W.Frag}{F:Hp}{ds:List D}{vs:List V}(r:ak K F ds vs)(lo hi:Option Int):ak K F (cutD ds lo hi) (nU vs lo hi):=by
 unfold cutD nU;rw[fY r];exact JW _ (JX _ r)
abbrev tQ:=G2 ->(Option Int ->G2 ->Prop) ->XW ->Prop
def upO(K:W.Frag)(F0 H0:Hp)(t:tQ)(E:XW):TO:=fun σ H Q=>∃F Γ P,SR K F0 H0 F H σ Γ/\t Γ P E/\∀o Γ' F' H',SR K F0 H0 F' H' σ Γ' ->Same F F' ->P o Γ' ->Q o H'
def QO(X:Cx)(F0 H0:Hp)(e:Option Expr)(t:tQ):Prop:=∀z E,Ctx (X.wsh z) F0 H0 E ->PO (X.wsh z) e (upO X.K F0 H0 t E)
theorem TF(h:PO X e t)(hi:∀σ H Q,t' σ H Q ->t σ H Q):PO X e t' :=fun pins s σ H Q I q=>h pins s σ H Q I (hi _ _ _ q)
def GC:tQ:=fun Γ P _=>P none Γ
def GD(te:aB):tQ:=fun Γ P E=>te Γ (fun d Γ1=>match d with | .int i=>P (some i) Γ1 | _=>False) E
section
variable{X:Cx}{F0 H0:Hp}{a b e:Expr}{es:List Expr}{pos p p2:Pos}{ta tb te:aB}{t:aO}{x:Str}{lo hi:Option Expr}{tl th:tQ}
theorem TJ:QO X F0 H0 none GC:=fun z E cx=>TF Z6 fun σ H Q hq1=>by obtain⟨F,Γ,P,R,h,k⟩:=hq1;exact k _ _ _ _ R (.refl _) h
theorem TQ(h:QE X F0 H0 e te):QO X F0 H0 (some e) (GD te):=fun z E cx=>TF (Z7 (h z E cx)) fun σ H Q hq2=>by obtain⟨F,Γ,P,R,h,k⟩:=hq2;exact⟨F,Γ,_,R,h,fun d Γ1 F1 H1 v R1 s1 r q=>by
 cases d with
 | int i=>unfold Rep at r;exact⟨i,r,k _ _ _ _ R1 s1 q⟩
 | _=>exact False.elim q⟩
def GF(te:aB)(tl th:tQ):aO:=fun Γ P E=>te Γ (fun d Γ1=>tl Γ1 (fun l Γ2=>th Γ2 (fun u Γ3=>match d with | .lst xs=>P (cutD xs l u) Γ3 | _=>False) E) E) E
theorem TV(he:QE X F0 H0 e te)(hl:QO X F0 H0 lo tl)(hh:QO X F0 H0 hi th):QF X F0 H0 (.Subscript e (.Slice lo hi none p2) pos) (GF te tl th):=fun z E cx=>
 jB (Z9 ztx (he z E cx) (hl z E cx) (hh z E cx)) fun σ H Q pN=>by obtain⟨F,Γ,P,R,h,k⟩:=pN;exact⟨F,Γ,_,R,h,fun d Γ1 F1 H1 v R1 s1 r1 h1=>⟨F1,Γ1,_,R1,h1,fun l Γ2 F2 H2 R2 s2 h2=>⟨F2,Γ2,_,R2,h2,fun u Γ3 F3 H3 R3 s3 h3=>by
  cases d with
  | lst xs=>
   have r3:=r1.up (s2.trans s3);unfold Rep at r3;obtain⟨a,vs,rfl,hq,rs⟩:=r3;refine⟨a,vs,rfl,R3.g.seq hq,fun p hp=> ?_⟩;have rc:=zs0 rs l u;obtain⟨R4,e1,e2,e3,ap⟩:=uq R3 hp rc;exact k _ Γ3 F3 _ p _ R4 (s1.trans (s2.trans s3)) e1 e2 e3 rc ap h3
  | _=>exact False.elim h3⟩⟩⟩
def wQ(te:aB):aO:=fun Γ P E=>te Γ (fun d Γ1=>match d with | .lst xs=>P xs.reverse Γ1 | _=>False) E
theorem BR{K:W.Frag}{F:Hp}:∀{ds:List D} {vs:List V},ak K F ds vs ->ak K F ds.reverse vs.reverse
 | [],_,h=>by unfold ak at h;subst h;unfold ak;rfl
 | d::ds,_,h=>by
  unfold ak at h;obtain⟨v,r,rfl,h1,h2⟩:=h;rw[List.reverse_cons,List.reverse_cons];exact yt (BR h2) (yu h1)
theorem zwz{k1}{p3 p4:Pos}(he:QE X F0 H0 e te):QF X F0 H0 (.Subscript e (.Slice none none (some (.UnaryOp .USub (.Constant (.int 1) k1 p3) p4)) p2) pos) (wQ te):=fun z E cx=>by
 rintro pins s σ H Q I ⟨F,Γ,P,R,h,k⟩;refine Subscript_ (aY (he z E cx pins s σ H (fun v H1=>∃F1 Γ1 d,SR X.K F0 H0 F1 H1 σ Γ1/\Same F F1/\Rep X.K F1 d v/\ (match d with | .lst xs=>P xs.reverse Γ1 | _=>False)) I ⟨F,Γ,_,R,h,fun d Γ1 F1 H1 v R1 s1 r1 h1=>⟨F1,Γ1,d,R1,s1,r1,h1⟩⟩) fun v s1 ou=> ?_)
 obtain⟨x,H1,I1,r1,F1,Γ1,d,R1,sF,rd,q1⟩:=ou;cases d with
 | lst xs=>
  unfold Rep at rd;obtain⟨a,vs,rfl,hq,rs⟩:=rd;cases r1;refine wpAny_Slice ?_;rw[evalPart_none];refine z7 (z7 ?_);rw[evalPart_some];refine aY (QL (X:=X.wsh z) QV Ib pins s1 σ H1 (fun v H' =>v= .int (-1)/\H' =H1) I1 ⟨1,rfl,rfl,rfl⟩) fun u s2 uo=> ?_;obtain⟨y,H2,I2,r2,hy,hH⟩:=uo;rw[hy] at r2;rw[hH] at I2;obtain⟨t,rfl⟩:=r2;have I4:Inv (X.wsh z) pins σ H1 {s2 with heap:=s2.heap.push {cls:= .type "slice",data:= .fields #[.none,.none,.int (-1) t]}}:=I2.kept (t' :=s2.toks) fun b ob q=>z8 _ q;obtain⟨its,r,ht,hz⟩:=I4.list (R1.g.seq hq);have hlen:=r.length;refine tail_any (T:= "list") (ops:= [.ref a,.ref s2.heap.objs.size]) ht.isList.typeIs slot_list_getitem.lookup ?_ (by with_unfolding_all rfl)
  refine wpAny_getItem_list_slice ht.isList (Heap.IsSliceOf.new ..) .none .none (.int (-1) t) (by simp) ?_ (by rw[List.size_toArray];omega)
  rw[W.krv_pick];have rr:=BR rs;have hf:=I4.fresh;obtain⟨R4,e1,e2,e3,ap⟩:=uq R1 hf rr;refine⟨.ref _,_,I4.laid (t' :=s2.toks) (o:= .lst vs.reverse) (fun b ob q=>z8 _ q) (zO _) ?_,rfl,k _ Γ1 F1 _ _ _ R4 sF e1 e2 e3 rr ap q1⟩;exact⟨by rw[List.length_reverse];exact hz,_,0,r.reverse,z9 _ rfl⟩
 | _=>exact False.elim q1
end
section
variable{X:Cx}
theorem TX{A:Around}(h:A.handled=none):A.in1.handled=none:=h
theorem TY(I:Inv X pins σ H s)(k:∀b o,s.heap.get? b=some o ->h'.get? b=some o)(r:RelV v u)(q:Q v H):EP X pins σ Q u {s with heap:=h',toks:=tk}:=⟨v,H,I.kept k,r,q⟩
def eY:List D ->Option (List Int)
 | []=>some []
 | .int i::r=>(eY r).map (i:: ·)
 | _::_=>none
def mF:List D ->Option (List Bool)
 | []=>some []
 | .bl i::r=>(mF r).map (i:: ·)
 | _::_=>none
theorem Lh{K:W.Frag}{F:Hp}:∀{ds:List D} {vs:List V} {ns:List Int},ak K F ds vs ->eY ds=some ns ->vs=ns.map .int
 | [],vs,ns,r,h=>by unfold ak at r;cases h;subst r;rfl
 | .int i::ds,vs,ns,r,h=>by
  unfold ak Rep at r;obtain⟨v,us,rfl,rfl,r⟩:=r;unfold eY at h;cases q:eY ds with
  | none=>rw[q] at h;cases h
  | some ms=>
   rw[q] at h;cases h;rw[Lh r q];rfl
 | .non::_,_,_,_,h=>by cases h
 | .bl _::_,_,_,_,h=>by cases h
 | .str _::_,_,_,_,h=>by cases h
 | .tup _::_,_,_,_,h=>by cases h
 | .lst _::_,_,_,_,h=>by cases h
 | .exc _::_,_,_,_,h=>by cases h
 | .ptr _::_,_,_,_,h=>by cases h
 | .obj _ _ _::_,_,_,_,h=>by cases h
 | .fB _ _::_,_,_,_,h=>by cases h
 | .fU _ _::_,_,_,_,h=>by cases h
 | .n6 _ _::_,_,_,_,h=>by cases h
theorem T3{K:W.Frag}{F:Hp}:∀{ds:List D} {vs:List V} {ns:List Bool},ak K F ds vs ->mF ds=some ns ->vs=ns.map .bl
 | [],vs,ns,r,h=>by unfold ak at r;cases h;subst r;rfl
 | .bl i::ds,vs,ns,r,h=>by
  unfold ak Rep at r;obtain⟨v,us,rfl,rfl,r⟩:=r;unfold mF at h;cases q:mF ds with
  | none=>rw[q] at h;cases h
  | some ms=>
   rw[q] at h;cases h;rw[T3 r q];rfl
 | .non::_,_,_,_,h=>by cases h
 | .int _::_,_,_,_,h=>by cases h
 | .str _::_,_,_,_,h=>by cases h
 | .tup _::_,_,_,_,h=>by cases h
 | .lst _::_,_,_,_,h=>by cases h
 | .exc _::_,_,_,_,h=>by cases h
 | .ptr _::_,_,_,_,h=>by cases h
 | .obj _ _ _::_,_,_,_,h=>by cases h
 | .fB _ _::_,_,_,_,h=>by cases h
 | .fU _ _::_,_,_,_,h=>by cases h
 | .n6 _ _::_,_,_,_,h=>by cases h
def zzg:List D ->(D ->Prop) ->Prop:=fun ds P=>match ds with | [.lst xs]=>∃ns,eY xs=some ns/\P (.int ns.sum) | _=>False
theorem T4(pl:PlainL h p its):(h.push {cls:= .type "list_iterator",data:= .fields #[.ref p,rawInt 0]}).IsListIter h.objs.size p 0/\ (h.push {cls:= .type "list_iterator",data:= .fields #[.ref p,rawInt 0]}).IsList p its:=by
 refine⟨⟨_,z9 _ rfl,rfl,rfl⟩,?_⟩;obtain⟨o,n,e,hcl,_,hd⟩:=pl;exact⟨o,z8 _ e,hcl,n,hd⟩
theorem znu(bs:List Bool):(List.range bs.length).any (fun i=>bs.getD i false)=bs.any id:=by
 rw[Bool.eq_iff_iff];simp only [List.any_eq_true,List.mem_range,id];constructor
 ·rintro⟨i,hi,e⟩;rw[List.getD_eq_getElem?_getD,List.getElem?_eq_getElem hi] at e;exact⟨_,zH hi,e⟩
 ·rintro⟨b,hb,e⟩;obtain⟨i,hi,rfl⟩:=List.mem_iff_getElem.mp hb;exact⟨i,hi,by rw[List.getD_eq_getElem?_getD,List.getElem?_eq_getElem hi];exact e⟩
def Li:List D ->(D ->Prop) ->Prop:=fun ds P=>match ds with | [.lst xs]=>∃bs,mF xs=some bs/\P (.bl (bs.any id)) | _=>False
def zzh:List D ->(D ->Prop) ->Prop:=fun ds P=>match ds with | [.lst xs]=>∃bs,mF xs=some bs/\P (.bl (bs.all id)) | _=>False
theorem zvx{bs:List Bool}{its:List Value}(rv:Vals (bs.map .bl) its){i:Nat}{v:Value}(hv:its.toArray[i]?=some v):v= .bool (bs.getD i false):=by
 have hl:=rv.length;rw[List.length_map] at hl;have hv' :its[i]?=some v:=by simpa using hv
 have hi:i<bs.length:=by
  have:=(zW.mp hv').1;omega
 obtain⟨u,hu,ru⟩:=rv.get (i:=i) (x:= .bl (bs.getD i false)) (by rw[List.getElem?_map,List.getD_eq_getElem?_getD,List.getElem?_eq_getElem hi];rfl)
 rw[hv'] at hu;cases hu;exact ru
theorem T5{ns:List Int}{its:List Value}(rv:Vals (ns.map .int) its){i:Nat}{v:Value}(hv:its.toArray[i]?=some v):i<ns.length/\∃t,v= .int (ns.getD i 0) t:=by
 have hl:=rv.length;rw[List.length_map] at hl;have hv' :its[i]?=some v:=by simpa using hv
 have hi:i<ns.length:=by
  have:=(zW.mp hv').1;omega
 obtain⟨u,hu,ru⟩:=rv.get (i:=i) (x:= .int (ns.getD i 0)) (by rw[List.getElem?_map,List.getD_eq_getElem?_getD,List.getElem?_eq_getElem hi];rfl)
 rw[hv'] at hu;cases hu;exact⟨hi,ru⟩
theorem zyg(hc:X.calm=true):bK X (.builtin "any") (kO X.K Li):=by
 rintro pins s σ H xs us Q I r ⟨F,ds,P,sF,rs,h,k⟩;unfold Li at h;split at h
 ·unfold ak ak Rep at rs;obtain⟨v,_,rfl,⟨p,vs,rfl,hq,rs⟩,rfl⟩:=rs;obtain⟨bs,hbs,h⟩:=h;obtain rfl:=T3 rs hbs;obtain⟨u,rfl,rx⟩:=vals1 r;cases rx;obtain⟨its,rv,pl,hz⟩:=I.list (sF.seq hq);have hl:=rv.length;rw[List.length_map] at hl;refine call_any_walk (wpAny_pyIter_list pl.isList ?_);have GJ:p<s.heap.objs.size:=by obtain⟨o,n,e,_⟩:=pl;exact zK e
  refine⟨s.heap.objs.size,_,_,_,_,_,fun i=>bs.getD i false,rfl,Walks.list (TX (I.ok.hd hc)) s.heap.objs.size p (zM GJ) its.toArray,T4 pl,fun i v s' Q' E' hv hQ=> ?_,fun h' tk kp=> ?_⟩
  ·rw[zvx rv hv];exact wpAny_truthy_bool hQ
  ·rw[show its.toArray.size=bs.length by simp [hl],znu]
   refine TY (s:=s) (v:= .bl (bs.any id)) I (fun b o e=>kp b o (fun z=> ?_) (z8 _ e)) rfl (k _ _ F H (Gr.refl sF) (by unfold Rep;rfl) h)
   rcases zV.mp z with rfl | z
   ·exact absurd (zK e) (zG _)
   ·cases z
 ·exact h.elim
theorem T6(ns:List Int):∀k,k<ns.length ->∃i,i<=k/\PySem.argBest (fun i j=>decide (ns.getD i 0>ns.getD j 0)) k=i/\∀j,j<=k ->ns.getD j 0<=ns.getD i 0
 | 0,_=>⟨0,zO _,rfl,fun j hj=>by obtain rfl:j=0:=(by omega);exact Int.le_refl _⟩
 | k+1,hk=>by
  obtain⟨i,h1,h2,h3⟩:=T6 ns k (by omega)
  unfold PySem.argBest;rw[h2];by_cases hg:ns.getD (k+1) 0>ns.getD i 0
  ·rw[if_pos (by simpa using hg)]
   refine⟨k+1,zO _,rfl,fun j hj=> ?_⟩;by_cases hjk:j=k+1
   ·subst hjk;exact Int.le_refl _
   ·have:=h3 j (by omega);omega
  ·rw[if_neg (by simpa using hg)]
   refine⟨i,by omega,rfl,fun j hj=> ?_⟩
   by_cases hjk:j=k+1
   ·subst hjk;omega
   ·exact h3 j (by omega)
def Lj:List D ->(D ->Prop) ->Prop:=fun ds P=>match ds with | [.lst xs]=>∃ns m,eY xs=some ns/\m∈ns/\ (∀i∈ns,i<=m)/\P (.int m) | _=>False
def zzc:List D ->(D ->Prop) ->Prop:=fun ds P=>match ds with | [.lst xs]=>∃ns m,eY xs=some ns/\m∈ns/\ (∀i∈ns,m<=i)/\P (.int m) | _=>False
theorem zsh{ns:List Int}{i:Nat}(h:i<ns.length):ns.getD i 0∈ns:=by
 rw[List.getD_eq_getElem?_getD,List.getElem?_eq_getElem h];exact zH h
theorem zsc{ns:List Int}{m:Int}(h:m∈ns):∃i,i<ns.length/\ns.getD i 0=m:=by
 obtain⟨i,hi,rfl⟩:=List.mem_iff_getElem.mp h;exact⟨i,hi,by rw[List.getD_eq_getElem?_getD,List.getElem?_eq_getElem hi];rfl⟩
theorem zxo(hc:X.calm=true):bK X (.builtin "max") (kO X.K Lj):=by
 rintro pins s σ H xs us Q I r ⟨F,ds,P,sF,rs,h,k⟩;unfold Lj at h;split at h
 ·unfold ak ak Rep at rs;obtain⟨v,_,rfl,⟨p,vs,rfl,hq,rs⟩,rfl⟩:=rs;obtain⟨ns,m,hns,hm,hmx,h⟩:=h;obtain rfl:=Lh rs hns;obtain⟨u,rfl,rx⟩:=vals1 r;cases rx;obtain⟨its,rv,pl,hz⟩:=I.list (sF.seq hq);have hl:=rv.length;rw[List.length_map] at hl;have pos:0<ns.length:=List.length_pos_of_mem hm;refine call_max_walk (wpAny_pyIter_list pl.isList ?_);have GJ:p<s.heap.objs.size:=by obtain⟨o,n,e,_⟩:=pl;exact zK e
  refine⟨s.heap.objs.size,_,_,_,_,_,_,rfl,Walks.list (TX (I.ok.hd hc)) s.heap.objs.size p (zM GJ) its.toArray,T4 pl,?_,by simp;omega,CmpOf.ints_gt (fun i=>ns.getD i 0) (fun i v hv=>(T5 rv hv).2),fun v h' tk hv kp=> ?_⟩
  ·intro b hb;rw[Heap.size_push];rcases zV.mp hb with rfl | hb
   ·exact Nat.lt_succ_self _
   ·rcases zV.mp hb with rfl | hb
    ·exact Nat.lt_succ_of_lt GJ
    ·cases hb
  ·obtain⟨hi,t,rfl⟩:=T5 rv hv;obtain⟨i,b1,b2,b3⟩:=T6 ns (its.toArray.size - 1) (by simp;omega)
   have e:ns.getD (PySem.argBest (fun i j=>decide (ns.getD i 0>ns.getD j 0)) (its.toArray.size - 1)) 0=m:=by
    rw[b2];obtain⟨j,hj,ej⟩:=zsc hm;have q1:=b3 j (by simp;omega)
    have q2:=hmx _ (zsh (ns:=ns) (i:=i) (by simp at b1;omega))
    omega
   rw[e];refine TY (s:=s) (v:= .int m) I (fun b o e=>kp b o (fun z=> ?_) (z8 _ e)) ⟨t,rfl⟩ (k _ _ F H (Gr.refl sF) (by unfold Rep;rfl) h)
   rcases zV.mp z with rfl | z
   ·exact absurd (zK e) (zG _)
   ·cases z
 ·exact h.elim
end
def BW:Slot ->Slot | .ow ds=> .pu (.lst ds) | .tr _ t=> .pu (toD t) | .nt _ c t=> .pu (.tup [.str c,toD t]) | .xe _ C _ _=> .pu (.exc C) | s=>s
def gQ(Γ:G2):G2:=Γ.map BW
def fD(Γ:G2)(σ:St)(b:Addr):Prop:=∃j,eU Γ σ j b
open Classical in
theorem T7{K:W.Frag}{F0 H0 F H:Hp}{σ:St}{Γ:G2}(R:SR K F0 H0 F H σ Γ):∃F1,Same F F1/\SR K F1 H F1 H σ (gQ Γ)/\ (∀b,F b=none ->¬fD Γ σ b ->F1 b=none)/\∀b,fD Γ σ b ->F b=none/\∃u,F1 b=some u/\LD u:=by
 let F1:Hp:=fun b=>if (F b).isSome then F b else if fD Γ σ b then H b else none
 have s1:Same F F1:=fun b u e=>by show(if _ then _ else _)=_;rw[if_pos (by rw[e];rfl)];exact e
 have s2:Same F1 H:=fun b u e=>by
  have e' :(if (F b).isSome then F b else if fD Γ σ b then H b else none)=some u:=e;split at e'
  ·exact R.g b u e'
  ·split at e'
   ·exact e'
   ·cases e'
 have at1:∀b u,F b=none ->fD Γ σ b ->H b=some u ->F1 b=some u:=fun b u h1 h2 h3=>by
  show(if (F b).isSome then F b else if fD Γ σ b then H b else none)=_;rw[if_neg (by rw[h1];exact Bool.false_ne_true),if_pos h2]
  exact h3
 have wK:∀(i:Nat) s o a,(gQ Γ)[i]?=some s ->¬dN s o a:=fun i s o a e=>by
  unfold gQ at e;rw[List.getElem?_map] at e;cases q:Γ[i]? with
  | none=>rw[q] at e;cases e
  | some t=>
   rw[q] at e;cases t<;>(cases e;exact fun h=>h)
 have own:∀b,fD Γ σ b ->F b=none/\∃u,F1 b=some u/\LD u:=fun b hb=>by
  obtain⟨j,s,o,e1,e2,hs⟩:=id hb;obtain⟨o',e3,r⟩:=R.sl j _ e1;rw[e2] at e3;cases e3;obtain⟨h1,_,u,h2,ld⟩:=pL r hs;exact⟨h1,u,at1 _ _ h1 hb h2,ld⟩
 refine⟨F1,s1,⟨Gr.refl s2,by rw[gQ,List.length_map];exact R.len,fun i s e=> ?_,fun i j a ⟨s,o,e,_,h⟩=>absurd h (wK i s o a e)⟩,fun b hb hn=> ?_,own⟩
 ·unfold gQ at e;rw[List.getElem?_map] at e;cases q:Γ[i]? with
  | none=>rw[q] at e;cases e
  | some sl=>
   rw[q] at e;obtain⟨o,e1,r⟩:=R.sl i sl q;refine⟨o,e1,?_⟩;have mine:∀b u,dN sl o b ->H b=some u ->F1 b=some u:=fun b u hb hu=>at1 b u (pL r hb).1 ⟨i,sl,o,q,e1,hb⟩ hu;cases sl with
   | no=>cases e;trivial
   | pu d=>cases e;obtain⟨v,rfl,rv⟩:=r;exact⟨v,rfl,rv.up s1⟩
   | ow ds=>
    cases e;obtain⟨a,vs,rfl,h1,h2,h3,rs⟩:=r;refine⟨.ref a,rfl,?_⟩;unfold Rep;exact⟨a,vs,rfl,.inl (.inl (mine a _ rfl h1)),rs.up s1⟩
   | tr as t=>
    cases e;obtain⟨v,rfl,nd,h1,rv⟩:=r;exact⟨v,rfl,TR.rep s1 t v as (fun a ha u hu=>mine a u ha hu) rv⟩
   | nt as c t=>
    cases e;obtain⟨p,v,rfl,e2,nd,h1,rv⟩:=r;refine⟨.ref p,rfl,?_⟩;unfold Rep;exact⟨p,[.str c,v],rfl,.inl (.inl (s1 _ _ e2)),pq (by unfold Rep;rfl) (yu (TR.rep s1 t v as (fun a ha u hu=>mine a u ha hu) rv))⟩
   | xe as C fs ts=>
    cases e;obtain⟨a,oe,dx,vs,rfl,e2,_⟩:=r;refine⟨.ref a,rfl,?_⟩;unfold Rep;exact⟨a,oe,rfl,s1 _ _ e2⟩
 ·show(if (F b).isSome then F b else if fD Γ σ b then H b else none)=none;rw[if_neg (by rw[hb];exact Bool.false_ne_true),if_neg hn]
theorem T8{K:W.Frag}{F0 H0 F H:Hp}{σ:St}{Γ:G2}(R:SR K F0 H0 F H σ Γ):∃F1,Same F F1/\SR K F1 H F1 H σ (gQ Γ):=by
 obtain⟨F1,s1,R1,_⟩:=T7 R;exact⟨F1,s1,R1⟩
theorem T9{K:W.Frag}{F0 H0 F H H' :Hp}{σ:St}{Γ:G2}(R:SR K F0 H0 F H σ Γ)(s:Same H H'):SR K F0 H0 F H' σ Γ:=by
 refine R.grow ⟨.refl _,fun b u e=>s b u (R.g b u e),s,fun b o e n=>by rw[e] at n;cases n⟩
def Ua:D ->Prop | .non=>True | .bl _=>True | .int _=>True | .str _=>True | _=>False
theorem zxi{K:W.Frag}{F F' :Hp}{d:D}{v:V}(h:Ua d)(r:Rep K F d v):Rep K F' d v:=by
 cases d with
 | non=>unfold Rep at r⊢;exact r
 | bl=>unfold Rep at r⊢;exact r
 | int=>unfold Rep at r⊢;exact r
 | str=>unfold Rep at r⊢;exact r
 | _=>exact h.elim
def mG(te:aB):aB:=fun Γ P _=>te (gQ Γ) (fun d _=>Ua d/\P d Γ) dX
def c7(t:TT2):TT2:=fun Γ P _=>t (gQ Γ) (fun b _=>P b Γ) dX
section
variable{X:Cx}{F0 H0:Hp}{e:Expr}{te:aB}{tt:TT2}
theorem GK{E:XW}{F1 H1:Hp}(cx:Ctx X F0 H0 E):Ctx X F1 H1 dX:=
 ⟨fun _ _ _ _ _ _ _ _ _ _ h=>by obtain⟨_,_,_,_,_,_,_,_,_,_,_,_,_,_,_,_,_,_,_,_,h⟩:=h;exact h.elim,cx.po⟩
theorem Lk(h:∀F0 H0,QE X F0 H0 e te):QE X F0 H0 e (mG te):=fun z E cx=>by
 rintro pins s σ H Q I ⟨F,Γ,P,R,q,k⟩;obtain⟨F1,s1,R1⟩:=T8 R;exact h F1 H z dX (GK cx) pins s σ H Q I ⟨F1,gQ Γ,_,R1,q,fun d Γ' F' H' v R' s' r hp=>k d Γ F H' v (T9 R R'.gr.h) (.refl _) (zxi hp.1 r) hp.2⟩
theorem uI(h:∀F0 H0,QT X F0 H0 e tt):QT X F0 H0 e (c7 tt):=fun z E cx=>by
 rintro pins s σ H Q I ⟨F,Γ,P,R,q,k⟩;obtain⟨F1,s1,R1⟩:=T8 R;exact h F1 H z dX (GK cx) pins s σ H Q I ⟨F1,gQ Γ,_,R1,q,fun b Γ' F' H' R' s' hp=>k b Γ F H' (T9 R R'.gr.h) (.refl _) hp⟩
def qT(i:Nat)(te:aB):aB:=fun Γ P E=>(∃xs,Γ[i]?=some (.ow xs))/\te Γ (fun k Γ1=>match k,Γ1[i]? with | .int k,some (.ow ds)=>∃d,fJ ds k=some d/\P d Γ1 | _,_=>False) E
theorem Ln{i:Nat}{x:Str}{b:Expr}{pos pos' :Pos}(hN:X.N[i]?=some x)(hv:nP X.env.scope x)(hb:QE X F0 H0 b te)(hs:Fe b)(hd:(x==("__debug__" :Str))=false:=by decide)(hcd:(x==("__classdict__" :Str))=false:=by decide):
  QE X F0 H0 (.Subscript (.Name x pos') b pos) (qT i te):=fun z E cx=>
 jB (Jx Rm (tG (X:=X.wsh z) (i:=i) hN hv hd hcd) (hb z E cx) hs) fun σ H Q hq2=>by
  obtain⟨F,Γ,P,R,⟨⟨xs,e0⟩,h⟩,k⟩:=hq2;obtain⟨o,e1,a,vs,rfl,h1,h2,h3,r⟩:=R.sl i _ e0;refine⟨.ref a,e1,F,Γ,_,R,h,fun d Γ1 F1 H1 v R1 s1 r1 q1=> ?_⟩;cases d with
  | int m=>
   unfold Rep at r1;subst r1;split at q1
   ·rename_i m' ds hm e2;cases hm;obtain⟨d,ed,hp⟩:=q1;obtain⟨o,e3,a',vs',ea,g1,g2,g3,r'⟩:=R1.sl i _ e2;rw[e1] at e3;cases e3;cases ea;obtain⟨w,ew,lR⟩:=KC r' ed;exact⟨a,vs',m,w,rfl,rfl,.inl (.inl g1),ew,k d Γ1 F1 H1 w R1 s1 lR hp⟩
   ·exact q1.elim
  | _=>exact False.elim q1
end
def Lq(X:Cx)(id:String)(g:List D ->List D ->(List D ->Prop) ->Prop):Prop:=
 ∀(pins:aV) (s:Shared) (σ:St) (F H:Hp) (l:Addr) (vs args:List V) (xs ds:List D) (us:List Value) (P:List D ->Prop) (Q:VK),Inv X pins σ H s ->H l=some (.lst vs) ->Same F H ->ak X.K F xs vs ->ak X.K F ds args ->Vals args us ->g xs ds P ->
  (∀ys ws,ak X.K F ys ws ->P ys ->Q .non (upd H l (.lst ws))) ->wpAny (model X.prog X.w) X.A (call (.builtin id) (.ref l::us)) (EP X pins σ Q) X.xe s
def qU:List D ->List D ->(List D ->Prop) ->Prop:=fun xs ds P=>match ds with | [d]=>xs.length<sizeLine/\P (xs++ [d]) | _=>False
def wR(xs:List D)(k:Nat)(d:D):List D:=xs.take k++d::xs.drop k
def GP:List D ->List D ->(List D ->Prop) ->Prop:=fun xs ds P=>match ds with | [.int k,d]=>0<=k/\k<=xs.length/\xs.length<sizeLine/\P (wR xs k.toNat d) | _=>False
def zyf:List D ->List D ->(List D ->Prop) ->Prop:=fun xs ds P=>match ds with | [.lst ys]=>xs.length+ys.length<=sizeLine/\P (xs++ys) | _=>False
def zv4:List D ->List D ->(List D ->Prop) ->Prop:=fun xs ds P=>match ds with | []=>P xs.reverse | _=>False
def zy1:List D ->List D ->(List D ->Prop) ->Prop:=fun xs ds P=>match ds with | []=>P [] | _=>False
section
variable{X:Cx}
theorem wU:Lq X "list.append" qU:=by
 intro pins s σ F H l vs args xs ds us P Q I hl sF rs ra rv h k;unfold qU at h;split at h
 ·unfold ak ak at ra;obtain⟨v,_,rfl,rd,rfl⟩:=ra;exact JC pins s σ H (.ref l) [v] (.ref l) us Q I rfl rv ⟨l,vs,v,rfl,rfl,hl,by rw[<- fY rs];exact h.1,k _ _ (yt rs (yu rd)) h.2⟩
 ·exact h.elim
theorem zpq:Lq X "list.insert" GP:=by
 intro pins s σ F H l vs args xs ds us P Q I hl sF rs ra rv h k;unfold GP at h;split at h
 ·rename_i j d;unfold ak ak ak at ra;obtain⟨v,_,rfl,rj,w,_,rfl,rd,rfl⟩:=ra;unfold Rep at rj;subst rj;obtain⟨h0,h1,h2,hp⟩:=h;obtain⟨u1,u2,rfl,⟨t,rfl⟩,r2⟩:=vals2 rv;obtain⟨z,its,n,r,hlen,e⟩:=I.lstM hl;have Ub:=fY rs;have hfit:¬(!Builtin.List.listFitsIndex j)=true:=by
   have hn:=gJ;unfold Builtin.List.listFitsIndex;simp;omega
  refine call_meets PySem.F.slot_list_insert ⟨_,e,rfl⟩ PySem.F.entry_list_insert (PySem.F.args_list_insert_3 _ _ _) (AutoSeq1.list_insert_list_int_val_1 l its.toArray n j t u2 hfit (by rw[List.size_toArray];omega)) ⟨e,?_⟩
  have hk:(if j<0 then(j+ (its.toArray.size:Int)).toNat else min j.toNat its.toArray.size)=j.toNat:=by
   rw[if_neg (by omega),List.size_toArray]
   omega
  refine⟨.non,_,I.lset (its' :=its.take j.toNat++u2::its.drop j.toNat) (ys:=vs.take j.toNat++w::vs.drop j.toNat) hl e ?_ ?_ ?_,rfl,k _ _ ?_ hp⟩
  ·dsimp only;rw[hk];apply Array.toList_inj.mp;simp;exact List.take_of_length_le (by simp)
  ·exact(r.take _).append (.cons r2 (r.drop _))
  ·simp;omega
  ·exact yt (JW _ rs) (pq rd (JX _ rs))
 ·exact h.elim
end
section
variable{X:Cx}{F0 H0:Hp}{x name:Str}{apos cpos npos pos:Pos}{e:Expr}{es:List Expr}{id:String}{i:Nat}{t:aO}{g:List D ->List D ->(List D ->Prop) ->Prop}
def qW(i:Nat)(g:List D ->List D ->(List D ->Prop) ->Prop)(t:aO):aq:=fun D Γ E=>(∃xs,Γ[i]?=some (.ow xs))/\t Γ (fun ds Γ1=>match Γ1[i]? with | some (.ow xs)=>g xs ds fun ys=>D.nx (Γ1.set i (.ow ys)) | _=>False) E
theorem zsg{z:Az}{σ:St}{F Fa H Ha:Hp}{Γ Γ1:G2}{xs:List D}{a:Addr}{D2:iT}{Dn:Ends}{vs args:List V}{ds:List D}(_R:SR X.K F0 H0 F H σ Γ)(R1:SR X.K F0 H0 Fa Ha σ Γ1)(s1:Same F Fa)(k:j8 X.K F0 H0 F D2 Dn)(e1:σ[i]?=some (some (.ref a)))
  (q:match Γ1[i]? with | some (.ow xs)=>g xs ds fun ys=>D2.nx (Γ1.set i (.ow ys)) | _=>False):
  ∃vs xs P,Ha a=some (.lst vs)/\ak X.K Fa xs vs/\g xs ds P/\∀ys ws,ak X.K Fa ys ws ->P ys ->Dn.nx σ (upd Ha a (.lst ws)):=by
 split at q
 ·rename_i xs e;obtain⟨o,e2,a',vs,rfl,g1,g2,g3,r⟩:=R1.sl i _ e;rw[e1] at e2;cases e2;exact⟨vs,xs,_,g1,r,q,fun ys ws lR hp=>k.nx _ _ _ _ (R1.wr e e1 lR) s1 hp⟩
 ·exact q.elim
theorem vm(hr:∀z,Lq (X.wsh z) id g)(slot:PySem.Slot "list" name id)(hty:typeOf (.builtin id)=pure (.type "method_descriptor"))(hN:X.N[i]?=some x)(hv:nP X.env.scope x)(ha:QA X F0 H0 (e::es) t)
  (hd:(x==("__debug__" :Str))=false:=by decide) (hcd:(x==("__classdict__" :Str))=false:=by decide)
  (hbase:attributeBase (.Name x npos) name X.env (eval (.Name x npos) X.env)=eval (.Name x npos) X.env:=by rfl)
  (hfew:((backTo cpos (starEach (e::es) X.env)).all (fun x=> !x.1)&&(backToKw cpos (keywordEach [] X.env)).all (fun x=>x.1.isSome)
   &&decide ((e::es).length+ ([]:List Keyword).length+ (if ([]:List Keyword).isEmpty then 0 else 1)<30))=true:=by rfl)
  (hline:(apos.endLine==cpos.line)=true:=by rfl) (hs:starEach (e::es) X.env=(false,eval e X.env)::starEach es X.env:=by rfl) (hplain:(backTo cpos (starEach es X.env)).any (·.1)=false:=by rfl)
  (hsw:swapsWith (.Call (.Attribute (.Name x npos) name apos) (e::es) [] cpos) none pos.line X.env=pure false:=by rfl):
  QS X F0 H0 (.Expr (.Call (.Attribute (.Name x npos) name apos) (e::es) [] cpos) pos) (qW i g t):=by
 intro z E cx;refine j9 (Il (X:=X.wsh z) (te:=fun σ H Q=>vP i σ H fun v H1=>Fi X.K "list" v H1/\Ay X.K F0 H0 t E σ H1 fun vs H2=>∃l xs ws F Pd ds,v= .ref l/\H2 l=some (.lst ws)/\Same F H2/\ak X.K F xs ws/\ak X.K F ds vs/\g xs ds Pd/\∀ys us,ak X.K F ys us ->Pd ys ->Q .non (upd H2 l (.lst us))) ?_ hsw) ?_
 ·refine Rv (X:=X.wsh z) (T:= "list") (id:=id) (r:=fun v vs H2 Q=>∃l xs ws F Pd ds,v= .ref l/\H2 l=some (.lst ws)/\Same F H2/\ak X.K F xs ws/\ak X.K F ds vs/\g xs ds Pd/\∀ys us,ak X.K F ys us ->Pd ys ->Q .non (upd H2 l (.lst us)))
   PySem.F.plainAttrs_list slot hty ?_ (tG (X:=X.wsh z) (i:=i) hN hv hd hcd) (ha z E cx) hbase hfew hline hs hplain
  rintro pins s σ H x xs v us Q I rx rs ⟨l,ys,ws,Fz,Pd,ds,e1,h1,h2,h3,h4,h5,h6⟩;subst e1;cases rx;exact hr z pins s σ Fz H l ws xs ys ds us Pd Q I h1 h2 h3 h4 rs h5 h6
 ·rintro Dn σ H ⟨F,Γ,D2,R,⟨⟨xs,e0⟩,h⟩,k⟩;obtain⟨o,e1,a,vs,rfl,h1,h2,h3,r⟩:=R.sl i _ e0;refine⟨.ref a,e1,.inl ⟨rfl,vs,.inl (.inl h1)⟩,F,Γ,_,R,h,fun ds Γ1 F1 H1 us R1 s1 r1 q1=> ?_⟩;obtain⟨ws,ys,P,g1,g2,g3,g4⟩:=zsg (z:=z) (vs:=vs) (args:=us) (xs:=xs) R R1 s1 k e1 q1;exact⟨a,ys,ws,F1,P,ds,rfl,g1,R1.g,g2,r1,g3,g4⟩
end
end L3
namespace L3
open PySem PySem.Spec PyProof.Rows L2
section
variable{X:Cx}{F0 H0:Hp}{st:Stmt}{i:Nat}{t:aO}
theorem zv6(h:QS X F0 H0 st (eV i t)):QS X F0 H0 st (bD i (iy t)):=fun z E cx=>
 j9 (h z E cx) fun Dn σ H hq1=>by
  obtain⟨F,Γ,D2,R,q,k⟩:=hq1;have key:(fun(ds:List D) (Γ1:G2)=>(match (Γ1.set i (.ow ds))[i]? with | some (.ow ds')=>D2.nx ((Γ1.set i (.ow ds)).set i (.pu (.lst ds'))) | _=>D2.nx (Γ1.set i (.ow ds))))=fun ds Γ1=>D2.nx (Γ1.set i (.pu (.lst ds))):=by
   funext ds Γ1
   by_cases hi:i<Γ1.length
   ·rw[List.getElem?_set_self hi];dsimp only;rw[List.set_set]
   ·rw[List.getElem?_eq_none (by simpa using hi)]
    dsimp only;rw[List.set_eq_of_length_le (by omega),List.set_eq_of_length_le (by omega)]
  refine⟨F,Γ,{D2 with nx:=fun Γ' =>match Γ'[i]? with | some (.ow ds)=>D2.nx (Γ'.set i (.pu (.lst ds))) | _=>D2.nx Γ'},R,?_,⟨fun Γ' F' H' σ' R' s' q' => ?_,k.bk,k.ct,k.rt,k.rf,k.rT,k.rm⟩⟩
  ·show t Γ _ E;dsimp only;rw[key];exact q
  ·dsimp only at q';split at q'
   ·rename_i ds e;obtain⟨a,F2,_,s2,R2,_⟩:=R'.frz e;exact k.nx _ _ _ _ R2 (s'.trans s2) q'
   ·exact k.nx _ _ _ _ R' s' q'
end
def uJ(t u:aB):aO:=fun Γ P E=>t Γ (fun d Γ1=>u Γ1 (fun d' Γ2=>match d,d' with | .lst xs,.lst ys=>xs.length+ys.length<=sizeLine/\P (xs++ys) Γ2 | _,_=>False) E) E
section
variable{X:Cx}{F0 H0:Hp}{a b c:Expr}{pos:Pos}{ta tb tc:aB}
theorem zqk{M:Program}{w:World}{A:Around}{E:bf}{s:Shared}{l b:Addr}{vs ws:List Value}{Q:bf}(hl:s.heap.IsList l vs.toArray)(hb:s.heap.IsList b ws.toArray)
  (h:Q (.ref s.heap.objs.size) {s with heap:=s.heap.push {cls:= .type "list",data:= .seq (vs++ws).toArray}}) (hsz:vs.length+ws.length<=sizeLine):wpAny (model M w) A (binaryOp .Add (.ref l) (.ref b)) Q E s:=by
 obtain⟨⟨cls,dd,data,sl⟩,ho,hc,n,hd⟩:=id hl;obtain⟨⟨cls2,dd2,data2,sl2⟩,ho2,hc2,n2,hd2⟩:=id hb;simp only at hc hd hc2 hd2;subst hc hd hc2 hd2;have e:vs.toArray++ws.toArray=(vs++ws).toArray:=by simp
 refine concat_meets ⟨_,ho,rfl⟩ ⟨_,ho2,rfl⟩ noFill_list_add seq_list_add PySem.F.slot_list_add PySem.F.entry_list_add (PySem.F.args_list_add_2 _ _) (list_addW l b vs.toArray ws.toArray n n2 dd dd2 sl sl2 (by simpa using hsz)) ⟨ho,ho2,?_⟩
 rw[e];exact h
theorem Uc(ha:QE X F0 H0 a ta)(hb:QE X F0 H0 b tb):QF X F0 H0 (.BinOp a .Add b pos) (uJ ta tb):=fun z E cx=>
 jB (QK (X:=X.wsh z) (r:=fun x y H Q=>∃p q xs ys,x= .ref p/\y= .ref q/\dW X.K H p xs/\dW X.K H q ys/\xs.length+ys.length<=sizeLine/\∀l,H l=none ->Q (.ref l) (upd H l (.lst (xs++ys)))) (by
  rintro pins s σ H x y v u Q I rx ry ⟨p,q,xs,ys,e1,e2,h1,h2,hz,k⟩;subst e1 e2;cases rx;cases ry;obtain⟨its,r,pl,_⟩:=I.list h1;obtain⟨its2,r2,pl2,_⟩:=I.list h2;have l1:=r.length;have l2:=r2.length;refine zqk pl.isList pl2.isList ?_ (by omega)
  exact⟨.ref _,_,I.lnew (t' :=s.toks) (r.append r2) (by rw[List.length_append];omega),rfl,k _ I.fresh⟩) (ha z E cx) (hb z E cx)) fun σ H Q hq2=>by obtain⟨F,Γ,P,R,h,k⟩:=hq2;exact⟨F,Γ,_,R,h,fun d1 Γ1 F1 H1 v1 R1 s1 r1 h1=>⟨F1,Γ1,_,R1,h1,fun d2 Γ2 F2 H2 v2 R2 s2 r2 h2=>by
   cases d1 with
   | lst xs=>
    cases d2 with
    | lst ys=>
     have r1' :=r1.up s2;unfold Rep at r1' r2;obtain⟨p,vs,rfl,hq,rs⟩:=r1';obtain⟨q,ws,rfl,hq2,yM⟩:=r2;refine⟨p,q,vs,ws,rfl,rfl,R2.g.seq hq,R2.g.seq hq2,by rw[<- fY rs,<- fY yM];exact h2.1,fun l hl=> ?_⟩
     have ra:=yt rs yM;obtain⟨R3,e1,e2,e3,ap⟩:=uq R2 hl ra;exact k _ Γ2 F2 _ l _ R3 (s1.trans s2) e1 e2 e3 ra ap h2.2
    | _=>exact False.elim h2
   | _=>exact False.elim h2⟩⟩
def qX:D ->Bool | .non=>true | .bl _=>true | .int _=>true | .str _=>true | _=>false
def Ud:D ->D ->Bool
 | .non,.non=>true
 | .bl a,.bl b=>a==b
 | .bl a,.int b=>(if a then 1 else 0)==b
 | .int a,.bl b=>a==(if b then 1 else 0)
 | .int a,.int b=>a==b
 | .str a,.str b=>a==b
 | _,_=>false
def inD(x:D)(xs:List D):Bool:=xs.any fun y=>Ud y x
def uK(neg:Bool):D ->D ->(D ->Prop) ->Prop:=fun x y P=>match y with
 | .lst xs=>qX x=true/\xs.all qX=true/\P (.bl (if neg then !inD x xs else inD x xs))
 | .tup xs=>qX x=true/\xs.all qX=true/\P (.bl (if neg then !inD x xs else inD x xs))
 | _=>False
theorem qY{K:W.Frag}{F:Hp}{d:D}{v:V}(h:qX d=true)(r:Rep K F d v):fZ v=true:=by
 cases d<;>first | (unfold Rep at r;subst r;rfl) | (exact absurd h zL)
theorem Lr{K:W.Frag}{F:Hp}{d e:D}{v u:V}(h:qX d=true)(h' :qX e=true)(r:Rep K F d v)(r' :Rep K F e u):ug v u=Ud d e:=by
 cases d<;>first | (exact absurd h zL) | (unfold Rep at r;subst r;cases e<;>first | (exact absurd h' zL) | (unfold Rep at r';subst r';rfl))
theorem BX{K:W.Frag}{F:Hp}:∀{ds:List D} {vs:List V},ak K F ds vs ->ds.all qX=true ->vs.all fZ=true
 | [],vs,r,_=>by unfold ak at r;subst r;rfl
 | d::ds,vs,r,h=>by
  unfold ak at r;obtain⟨v,us,rfl,r1,r2⟩:=r;rw[List.all_cons,Bool.and_eq_true] at h⊢;exact⟨qY h.1 r1,BX r2 h.2⟩
theorem qZ{K:W.Frag}{F:Hp}{x:D}{u:V}(hx:qX x=true)(rx:Rep K F x u):∀{ds:List D} {vs:List V},ak K F ds vs ->ds.all qX=true ->inV u vs=inD x ds
 | [],vs,r,_=>by unfold ak at r;subst r;rfl
 | d::ds,vs,r,h=>by
  unfold ak at r;obtain⟨v,us,rfl,r1,r2⟩:=r;rw[List.all_cons,Bool.and_eq_true] at h;unfold inV inD;rw[List.any_cons,List.any_cons,Lr h.1 hx r1 rx];have:=qZ hx rx r2 h.2;unfold inV inD at this;rw[this]
theorem Ls:dJ X (compareOp .In) (jf X.K (uK false)):=by
 rintro pins s σ H x y v u Q I rx ry ⟨F,d1,d2,P,sF,r1,r2,h,k⟩;unfold uK at h;split at h
 ·unfold Rep at r2;obtain⟨p,vs,rfl,hq,rs⟩:=r2;obtain⟨h1,h2,h3⟩:=h;exact Rq pins s σ H x _ v u Q I rx ry ⟨p,vs,rfl,.inl (sF.seq hq),qY h1 r1,BX rs h2,k _ _ F H (Gr.refl sF) (by rw[qZ h1 r1 rs h2];unfold Rep;rfl) h3⟩
 ·unfold Rep at r2;obtain⟨p,vs,rfl,hq,rs⟩:=r2;obtain⟨h1,h2,h3⟩:=h;exact Rq pins s σ H x _ v u Q I rx ry ⟨p,vs,rfl,.inr (jy sF hq),qY h1 r1,BX rs h2,k _ _ F H (Gr.refl sF) (by rw[qZ h1 r1 rs h2];unfold Rep;rfl) h3⟩
 ·exact h.elim
theorem Lx:dJ X (compareOp .NotIn) (jf X.K (uK true)):=by
 rintro pins s σ H x y v u Q I rx ry ⟨F,d1,d2,P,sF,r1,r2,h,k⟩;unfold uK at h;split at h
 ·unfold Rep at r2;obtain⟨p,vs,rfl,hq,rs⟩:=r2;obtain⟨h1,h2,h3⟩:=h;exact Rr pins s σ H x _ v u Q I rx ry ⟨p,vs,rfl,.inl (sF.seq hq),qY h1 r1,BX rs h2,k _ _ F H (Gr.refl sF) (by rw[qZ h1 r1 rs h2];unfold Rep;rfl) h3⟩
 ·unfold Rep at r2;obtain⟨p,vs,rfl,hq,rs⟩:=r2;obtain⟨h1,h2,h3⟩:=h;exact Rr pins s σ H x _ v u Q I rx ry ⟨p,vs,rfl,.inr (jy sF hq),qY h1 r1,BX rs h2,k _ _ F H (Gr.refl sF) (by rw[qZ h1 r1 rs h2];unfold Rep;rfl) h3⟩
 ·exact h.elim
def iU(g g' :D ->D ->(D ->Prop) ->Prop)(ta tb tc:aB):aB:=fun Γ P E=>ta Γ (fun x Γ1=>tb Γ1 (fun y Γ2=>g x y fun r=>match r with
 | .bl k=>if k=true then tc Γ2 (fun w Γ3=>g' y w fun d=>P d Γ3) E else P (.bl false) Γ2
 | _=>False) E) E
theorem Ue{K:W.Frag}{g g' :D ->D ->(D ->Prop) ->Prop}{E:XW}{σ:St}{H:Hp}{Q:VK}(h:qH K F0 H0 (iU g g' ta tb tc) E σ H Q):nQ (jf K g) (jf K g') (qH K F0 H0 ta E) (qH K F0 H0 tb E) (qH K F0 H0 tc E) σ H Q:=by
 obtain⟨F,Γ,P,R,h,k⟩:=h;refine⟨F,Γ,_,R,h,fun x Γ1 F1 H1 v1 R1 s1 r1 h1=>⟨F1,Γ1,_,R1,h1,fun y Γ2 F2 H2 v2 R2 s2 r2 h2=>⟨F2,x,y,_,R2.g,r1.up s2,r2,h2,fun d z F' H' gr rz hp=> ?_⟩⟩⟩;cases d with
 | bl b=>
  unfold Rep at rz;refine⟨b,rz,?_⟩;have R3:=R2.grow gr;cases b with
  | true=>
   rw[if_pos rfl];have hp' :tc Γ2 (fun w Γ3=>g' y w fun d=>P d Γ3) E:=hp;exact⟨F',Γ2,_,R3,hp',fun w Γ3 F3 H3 v3 R4 s4 r4 h4=>⟨F3,y,w,_,R4.g,r2.up (gr.f.trans s4),r4,h4,fun d z F5 H5 Ug rz5 hp5=>k d Γ3 F5 H5 z (R4.grow Ug) (s1.trans (s2.trans (gr.f.trans (s4.trans Ug.f)))) rz5 hp5⟩⟩
  | false=>
   rw[if_neg Bool.false_ne_true];have hp' :P (.bl false) Γ2:=hp;exact k _ Γ2 F' H' _ R3 (s1.trans (s2.trans gr.f)) (by unfold Rep;rfl) hp'
 | _=>exact False.elim hp
theorem zsx(ho:∀z,dJ (X.wsh z) (compareOp op) (jf X.K g))(ho' :∀z,dJ (X.wsh z) (compareOp op') (jf X.K g'))(ha:QE X F0 H0 a ta)(hb:QE X F0 H0 b tb)(hc:QE X F0 H0 c tc)
  (hm:lastMarks [op,op'] [b,c]=false:=by with_unfolding_all rfl):QE X F0 H0 (.Compare a [op,op'] [b,c] pos) (iU g g' ta tb tc):=fun z E cx=>
 jB (Zz (ho z) (ho' z) (ha z E cx) (hb z E cx) (hc z E cx) hm) fun _ _ _ h=>Ue h
theorem zrn(ho:∀z,dJ (X.wsh z) (compareOp op) (jf X.K g))(ho' :∀z,dJ (X.wsh z) (compareOp op') (jf X.K g'))(ha:QE X F0 H0 a ta)(hb:QE X F0 H0 b tb)(hc:QE X F0 H0 c tc)
  (hm:lastMarks [op,op'] [b,c]=false:=by with_unfolding_all rfl):QT X F0 H0 (.Compare a [op,op'] [b,c] pos) (cT (iU g g' ta tb tc)):=fun z E cx=>
 Fq (ZC (ho z) (ho' z) (ha z E cx) (hb z E cx) (hc z E cx) hm) fun σ H Q h=>Ue (J3 h)
end
section
variable{X:Cx}{F0 H0:Hp}{tg a b:Expr}{t:aO}{p pc:Pos}
def aaq(t:aO):aO:=fun Γ P E=>t Γ (fun ds Γ1=>match ds with | [.int j]=>(-(2^62)<=j/\j<2^62)/\j.toNat<=sizeLine/\P ((List.range j.toNat).map fun(k:Nat)=> .int (0+k)) Γ1 | _=>False) E
def aar(t:aO):aO:=fun Γ P E=>t Γ (fun ds Γ1=>match ds with | [.int i,.int j]=>(-(2^62)<=i/\i<2^62/\ -(2^62)<=j/\j<2^62)/\ (j - i).toNat<=sizeLine/\P ((List.range (j - i).toNat).map fun(k:Nat)=> .int (i+k)) Γ1 | _=>False) E
end
def zss(sc BP:Scope):Scope:={sc with names:=sc.names.map fun(n,k)=>if (k== .free&&BP.kind== .function&&BP.names.lookup n==some .cell) then(n,.cell) else(n,k)}
section
variable{X:Cx}{F0 H0:Hp}{x:Str}{pos:Pos}{d:D}
def Glb(K:W.Frag)(mg:Str ->Option Value)(x:Str)(d:D):Prop:=∃v u,mg x=some u/\RelV v u/\∀F,Rep K F d v
end
structure aat (K:W.Frag) (x qual:Str) (st:Stmt) (f:Addr) (fd:FuncData) (dV:Value):Prop where
 ex:∃(oc:Value) (od:Option Addr) (kV doc pm:Value) (an:Option Addr) (cdv ct:Value) (osl:Array (Option Value)),
  fd=W.fnOf x qual (uh st) (pJ st) (bF st) dV kV doc pm an cdv ct/\K.lookup f=some ⟨oc,od,.func fd,osl⟩/\W.codeIn K cdv qual=true
 kp:W.keepIn K (.ref f)=true
section
variable{P:Program}{w:World}{K:W.Frag}{mg:Str ->Option Value}{base:Heap}
structure aau (P:Program) (w:World) (K:W.Frag) (mg:Str ->Option Value) (base:Heap) (x:Str) (k:Nat) (ps:List Str) (sp:bH):Prop where
 ex:∃f fd,cJ P w K mg base (cN P w) k f fd ps (jC K sp)/\mg x=some (.ref f)/\W.keepIn K (.ref f)=true/\Binds K fd ps []/\Binds K fd ps [.none]
end
def wV(sp:bH)(t:aO):aB:=fun Γ P E=>t Γ (fun ds Γ1=>sp (ds++ [.non]) (fun d=>P d Γ1) fun C=>E Γ1 C) E
section
variable{X:Cx}{F0 H0:Hp}{e:Expr}{es:List Expr}{pos p:Pos}{x:Str}{ps:List Str}{k:Nat}{sp:bH}{t:aO}
end
def VE(K:W.Frag)(C:Addr):Prop:=W.kitOne K (.ref C) (.type "ValueError")=some true
def Ly(K:W.Frag)(ta:aB):aB:=fun Γ P E=>ta Γ (fun d Γ1=>match d with | .exc C0=>(jA K C0/\qN K C0/\VE K C0)/\P (.bl true) Γ1 | _=>False) E
def Lz(K:W.Frag)(Cs:List Addr)(ta:aB):aB:=fun Γ P E=>ta Γ (fun d Γ1=>match d with | .exc C0=>(jA K C0/\qN K C0)/\P (.bl (Cs.any fun C=>cZ K C0 C)) Γ1 | _=>False) E
def PCl(X:Cx)(es:List Expr)(Cs:List Addr):Prop:=∀z,PA (X.wsh z) es fun _ H Q=>Q (Cs.map V.ref) H
section
variable{X:Cx}{F0 H0:Hp}{a:Expr}{pos p pt:Pos}{ta:aB}{x:Str}{C:Addr}{es:List Expr}{Cs:List Addr}
end
theorem Uh{X:Cx}{pins:aV}{σ:St}{H:Hp}{s:Shared}{h' :Heap}{t' :Nat}{fp:List Addr}(I:Inv X pins σ H s)(k:∀b o,b∉fp ->s.heap.get? b=some o ->h'.get? b=some o)(hf:∀b∈fp,fH X pins H b):Inv X pins σ H {s with heap:=h',toks:=t'}:=by
 have zq:∀b u,H b=some u ->b∉fp:=fun b u e z=>by rw[(hf b z).1] at e;cases e
 refine I.step (g' :=s.gens) (d' :=s.drawn) (ch:=fp) (fun b hb=> ?_) (fun b o _ _ hc e _=>k b o hc e) (fun b o _ _ hc e _=>⟨o.slots,k b o hc e⟩) (fun _ _ _ _ n=>n) (fun b o hc e=>⟨o,k b o hc e⟩) (fun _ _ e=>e) (fun _ _ _ e=>e) (fun b ps e=>⟨#[],by rw[e];simp⟩) (fun m hm=> ?_) (fun b u e=> ?_) I.bare
 ·obtain⟨f0,f1,f2,f3,f4,f5⟩:=hf b hb;exact⟨f3,f1,f4,f5⟩
 ·obtain⟨o,es,ep,ho,r⟩:=hm;exact⟨o,es,ep,k _ o (fun z=>(hf _ z).2.1 rfl) ho,r⟩
 ·refine(I.hok b u e).stay (fun c v hc q=>k c v ?_ q) (fun _ q=>q) fun _ _ q=>q;rcases hc with z | z
  ·rw[z];exact zq b u e
  ·exact zq c _ z
theorem Ui(h:fH X pins H b)(hb:b≠a):fH X pins (upd H a o) b:=⟨by rw[bC hb];exact h.1,h.2⟩
theorem zuf{X:Cx}{pins:aV}{σ:St}{H:Hp}{s:Shared}{h' :Heap}{t' :Nat}{fp:List Addr}{xs:List V}{its:List Value}(I:Inv X pins σ H s)(k:∀b o,b∉fp ->s.heap.get? b=some o ->h'.get? b=some o)
  (hlt:∀b∈fp,b<s.heap.objs.size) (ht:h'.get? s.heap.objs.size=some {cls:= .type "tuple",data:= .seq its.toArray}) (hv:Vals xs its) (hz:xs.length<=sizeLine) (hf:∀b∈fp,fH X pins H b):
  Inv X pins σ (upd H s.heap.objs.size (.tup xs)) {s with heap:=h',toks:=t'}:=by
 have I1:Inv X pins σ (upd H s.heap.objs.size (.tup xs)) {s with heap:=s.heap.push {cls:= .type "tuple",data:= .seq its.toArray},toks:=s.toks}:=
  I.laid (t' :=s.toks) (fun b o e=>z8 _ e) (zO _) (show aX X.prog X.w _ _ _ (.tup xs) from ⟨hz,its,hv,IsTup.new _ _⟩)
 refine Uh (s:={s with heap:=s.heap.push {cls:= .type "tuple",data:= .seq its.toArray},toks:=s.toks}) (fp:=fp) I1 (fun b o hb e=> ?_) fun b hb=>Ui (hf b hb) (zM (hlt b hb));rcases Heap.get?_push_cases e with ⟨rfl,rfl⟩ | e
 ·exact ht
 ·exact k b o hb e
def Ite(K:W.Frag)(a:Addr):It:=
 ⟨fun i H=>∃xs x,dW K H a xs/\xs[i]?=some x,fun i H x H' =>∃b v,x= .ref b/\H b=none/\H' =upd H b (.tup [.int i,v])/\∀xs,dW K H a xs ->xs[i]?=some v,fun i H=>∃xs,dW K H a xs/\xs.length<=i⟩
def Uj(K:W.Frag)(ta:TA):TI:=fun σ H R=>ta σ H fun vs H1=>∃a xs,vs= [.ref a]/\dW K H1 a xs/\ (xs.length<=sizeLine ->R (Ite K a) H1)
def Uk:Nat ->List D ->List D
 | _,[]=> []
 | k,x::r=> .tup [.int k,x]::Uk (k+1) r
def zku(t:aO):aO:=fun Γ P E=>t Γ (fun ds Γ1=>match ds with | [.lst xs]=>P (Uk 0 xs) Γ1 | _=>False) E
section
variable{X:Cx}{F0 H0:Hp}{a b e tg:Expr}{es:List Expr}{pos p pt:Pos}{te:aB}{t:aO}{g:iQ}{tb:aq}{elts:List Expr}
end
def BZ:List D ->(D ->Prop) ->Prop:=fun ds P=>match ds with | [.bl b]=>P (.int (if b then 1 else 0)) | [.int i]=>P (.int i) | _=>False
theorem Ul:bK X (.type "int") (kO X.K BZ):=by
 rintro pins s σ H xs us Q I r ⟨F,ds,P,sF,rs,h,k⟩;unfold BZ at h;split at h
 ·unfold ak ak Rep at rs;obtain⟨v,_,rfl,rfl,rfl⟩:=rs;obtain⟨u,rfl,rx⟩:=vals1 r;cases rx;exact call_int_bool ⟨.int _,H,I.tok _,⟨_,rfl⟩,k _ _ F H (Gr.refl sF) (by unfold Rep;rfl) h⟩
 ·unfold ak ak Rep at rs;obtain⟨v,_,rfl,rfl,rfl⟩:=rs;obtain⟨u,rfl,rx⟩:=vals1 r;obtain⟨t,rfl⟩:=rx;exact call_int_int ⟨.int _,H,I,⟨_,rfl⟩,k _ _ F H (Gr.refl sF) (by unfold Rep;rfl) h⟩
 ·exact h.elim
theorem Um:∀{ns:List Int} {its:List Value},Vals (ns.map .int) its ->IntsAre its ns
 | [],_,.nil=> .nil
 | n::ns,_,.cons h r=>by
  obtain⟨t,rfl⟩:=h;exact .cons _ _ (Um r)
theorem Ar:∀{ns:List Int} {its:List Value},IntsAre its ns ->Vals (ns.map .int) its
 | _,_,.nil=> .nil
 | _,_,.cons _ _ r=> .cons ⟨_,rfl⟩ (Ar r)
def zsp:List D ->(List D ->Prop) ->Prop:=fun ds P=>match ds with | [.lst xs]=>∃ns,eY xs=some ns/\ns.length<64/\∀ms:List Int,ms.Perm ns ->ms.Pairwise (· <= ·) ->P (ms.map .int) | _=>False
section
variable{prog:Program}{w:World}{A:Around}{E:bf}{s:Shared}
def bW(t:Bool)(h:Heap)(it l:Addr)(i:Nat):Prop:=match t with | false=>h.IsListIter it l i | true=>h.IsTupleIter it l i
def cD(t:Bool)(h:Heap)(l:Addr)(xs:Array Value):Prop:=match t with | false=>h.IsList l xs | true=>h.IsTuple l xs
theorem vo(x:bW t h it l i)(k:∀o,h.get? it=some o ->h'.get? it=some o):bW t h' it l i:=by
 cases t<;>exact let ⟨o,ho,r⟩:=x;⟨o,k o ho,r⟩
theorem LC(x:cD t h l xs)(k:∀o,h.get? l=some o ->h'.get? l=some o):cD t h' l xs:=by
 cases t<;>exact let ⟨o,ho,r⟩:=x;⟨o,k o ho,r⟩
theorem GQ(x:bW t h it l i):∃o,h.get? it=some o/\∀v,o.data≠ .cell v:=by
 cases t<;>exact let ⟨o,ho,_,d⟩:=x;⟨o,ho,fun v z=>by rw[d] at z;cases z⟩
theorem Ca(hl:cD t s.heap l xs)
  (hQ:Q (.ref s.heap.objs.size) {s with heap:=s.heap.push {cls:= .type (if t then "tuple_iterator" else "list_iterator"),data:= .fields #[.ref l,.int 0 0]}}):wpAny (model prog w) A (pyIter (.ref l)) Q E s:=by
 cases t
 ·exact wpAny_pyIter_list hl hQ
 ·exact wpAny_pyIter_tuple hl hQ
theorem LK(hit:bW t s.heap it l i)(hl:cD t s.heap l xs)(hx:xs[i]?=some x)
  (hQ:∀h',bW t h' it l (i+1) ->Heap.SameBut it s.heap h' ->Q x {s with heap:=h'}):wpAny (model prog w) A (Builtin.SmallTypes.nextOf (.ref it)) Q E s:=by
 cases t
 ·exact wpAny_nextOf_list_item hit hl hx hQ
 ·have hit2:s.heap.IsTupleIter it l i:=hit;obtain⟨o,ho,hc,hd⟩:=id hit2;obtain⟨ol,hol,_,nl,hdl⟩:=(show s.heap.IsTuple l xs from hl);unfold Builtin.SmallTypes.nextOf;refine z6 (wpAny_callSpecial?_slot (name:=Str.ofString "__next__") hit2.typeIs F.slot_tuple_iterator_next (wpAny_call_entry F.slot_tuple_iterator_next hit2.typeIs F.entry_tuple_iterator_next ?_ (F.args_tuple_iterator_next_1 _)));show wpAny _ _ (field (.ref it) 0>>=_) _ _ s;refine z6 (wpAny_field ho hd (x:= .ref l) rfl ?_);show wpAny _ _ (if (Value.ref l==Value.none)=true then _ else _) _ _ s;rw[if_neg (show¬((Value.ref l==Value.none)=true) from Bool.false_ne_true)];show wpAny _ _ (field (.ref it) 1>>=_) _ _ s;refine z6 (wpAny_field ho hd (x:= .int i 0) rfl ?_);show wpAny _ _ (seqItems? (.ref l)>>=_) _ _ s;refine z6 (wpAny_seqItems hol hdl ?_);simp only [Int.toNat_natCast,hx];refine z6 (wpAny_setField ho hd (by simp) (z7 ⟨x,rfl,z7 (hQ _ ?_ (Heap.SameBut.update ..))⟩))
  exact⟨_,Heap.get?_update_self _ ho (Obj.isFreed_of_fields (Obj.data_mapFields hd _)),(Obj.cls_mapFields ..).trans hc,by rw[Obj.data_mapFields hd];simp [rawInt]⟩
theorem Uo(hh:A.handled=none)(hit:bW t s.heap it l i)(hl:cD t s.heap l xs)(hx:xs[i]?=none)
  (hE:∀h' e,Heap.ExtBut it s.heap h' ->(∃o,h'.get? e=some o/\o.cls= .type "StopIteration") ->E (.ref e) {s with heap:=h'}):wpAny (model prog w) A (Builtin.SmallTypes.nextOf (.ref it)) Q E s:=by
 cases t
 ·exact wpAny_nextOf_list_end hh hit hl hx hE
 ·have hit2:s.heap.IsTupleIter it l i:=hit;obtain⟨o,ho,hc,hd⟩:=id hit2;obtain⟨ol,hol,_,nl,hdl⟩:=(show s.heap.IsTuple l xs from hl);unfold Builtin.SmallTypes.nextOf;refine z6 (wpAny_callSpecial?_slot (name:=Str.ofString "__next__") hit2.typeIs F.slot_tuple_iterator_next (wpAny_call_entry F.slot_tuple_iterator_next hit2.typeIs F.entry_tuple_iterator_next ?_ (F.args_tuple_iterator_next_1 _)));show wpAny _ _ (field (.ref it) 0>>=_) _ _ s;refine z6 (wpAny_field ho hd (x:= .ref l) rfl ?_);show wpAny _ _ (if (Value.ref l==Value.none)=true then _ else _) _ _ s;rw[if_neg (show¬((Value.ref l==Value.none)=true) from Bool.false_ne_true)];show wpAny _ _ (field (.ref it) 1>>=_) _ _ s;refine z6 (wpAny_field ho hd (x:= .int i 0) rfl ?_);show wpAny _ _ (seqItems? (.ref l)>>=_) _ _ s;refine z6 (wpAny_seqItems hol hdl ?_);simp only [Int.toNat_natCast,hx];refine z6 (wpAny_rule (z6 (wpAny_setField ho hd (by simp) ?_)))
  show wpAny _ _ (newExc (.type "StopIteration") []>>=_) _ _ _;refine z6 ?_;simp only [newExc,newTuple];refine z6 (wpAny_newObj_type ?_ (by size_fits))
  refine z6 (m:=firstArgMember _ _) (wpAny_of_eq (a:=Value.none) (by first | rfl | (simp only [firstArgMember];rfl)) ?_)
  refine wpAny_newObj_type ?_ (by size_fits)
  simp only [raiseNew];refine z6 (wpAny_handled ?_)
  first | rw[show A.in1.handled=none from hh] | rw[hh]
  refine z6 (z7 (wpAny_throw ?_));exact hE _ _ (((Heap.SameBut.update ..).extBut.push _).push _) ⟨_,z9 _ rfl,rfl⟩
structure lF (z TI TO i1 i2 l1 l2:Addr):Prop where
 p:TI≠z/\TO≠z/\i1≠z/\i2≠z/\TI≠TO/\TI≠i1/\TI≠i2/\TO≠i1/\TO≠i2/\i1≠i2
 q:l1≠z/\l1≠TO/\l1≠i1/\l1≠i2/\l2≠z/\l2≠TO/\l2≠i1/\l2≠i2
theorem lF.k{z TI TO i1 i2 l1 l2:Addr}(D:lF z TI TO i1 i2 l1 l2):ZipApart z TI TO i1 i2 l1 l2:=by
 obtain⟨⟨a1,a2,a3,a4,a5,a6,a7,a8,a9,a10⟩,b1,b2,b3,b4,b5,b6,b7,b8⟩:=D;exact⟨a1,a2,a3,a4,a5,a6,a7,a8,a9,a10,b1,b2,b3,b4,b5,b6,b7,b8⟩
theorem zpi{t1 t2:Bool}{z TI TO i1 i2 l1 l2:Addr}{k1 k2:Nat}{xs ys:Array Value}{x y a b:Value}{Q:bf}(D:ZipApart z TI TO i1 i2 l1 l2)(hz:IsZip s.heap z TI TO .none)(hTI:IsPair s.heap TI (.ref i1) (.ref i2))(hTO:IsPair s.heap TO a b)
  (h1:bW t1 s.heap i1 l1 k1) (h2:bW t2 s.heap i2 l2 k2) (hl1:cD t1 s.heap l1 xs) (hl2:cD t2 s.heap l2 ys) (hx:xs[k1]?=some x) (hy:ys[k2]?=some y)
  (hQ:∀h',IsZip h' z TI TO (rawInt s.heap.objs.size) ->IsPair h' TO x y ->bW t1 h' i1 l1 (k1+1) ->bW t2 h' i2 l2 (k2+1) ->IsPair h' s.heap.objs.size x y ->h'.objs.size=s.heap.objs.size+1 ->
   (∀c o,c≠z ->c≠TO ->c≠i1 ->c≠i2 ->s.heap.get? c=some o ->h'.get? c=some o) ->Q (.ref s.heap.objs.size) {s with heap:=h'}):wpAny (model prog w) A (Builtin.«zip.__next__» ⟨[.ref z],[]⟩) (fun fin s' =>∃v,fin= .done (.ret v)/\Q v s') E s:=by
 have kI:∀{t:Bool} {h h' :Heap} {it l c:Addr} {i:Nat},bW t h it l i ->Heap.ExtBut c h h' ->it≠c ->bW t h' it l i:=fun x e n=>vo x fun o ho=>e _ o n ho;have kS:∀{t:Bool} {h h' :Heap} {l c:Addr} {ws:Array Value},cD t h l ws ->Heap.ExtBut c h h' ->l≠c ->cD t h' l ws:=fun x e n=>LC x fun o ho=>e _ o n ho;show wpAny _ _ (field (.ref z) 2>>=_) _ _ _;refine z6 (wpAny_field hz rfl (x:= .bool false) rfl ?_);show wpAny _ _ (field (.ref z) 3>>=_) _ _ _;refine z6 (wpAny_field hz rfl (x:= .ref TI) rfl ?_);refine z6 (wpAny_seqItems hTI rfl ?_);show wpAny _ _ (Builtin.SmallTypes.ownedTupleIsFree (.ref z)>>=_) _ _ _;refine z6 ?_;unfold Builtin.SmallTypes.ownedTupleIsFree;refine z6 (wpAny_field hz rfl (x:= .none) rfl (z7 ?_));simp only [if_true];refine z6 (wpAny_rule ?_);refine z6 (wpAny_field hz rfl (x:= .ref TO) rfl ?_);refine z6 (wpAny_setField_rec hz (by simp) fun g1 hz1 hs1=> ?_)
 replace hz1:IsZip g1 z TI TO .ellipsis:=hz1;refine z6 ?_;simp only [List.zipIdx_cons,List.zipIdx_nil,List.forIn_cons,List.forIn_nil];refine z6 (z6 (wpAny_onRaise ?_));show wpAny _ _ (Builtin.SmallTypes.nextOf (.ref i1)>>=_) _ _ _;refine z6 (LK (kI h1 hs1.extBut D.i1z) (kS hl1 hs1.extBut D.l1z) hx fun g2 q1 hs2=>z7 ?_);have Ce :IsPair g2 TO a b:=hs2.extBut _ _ D.TOi1 (hs1.extBut _ _ D.TOz hTO);refine z6 (wpAny_seqItems Ce rfl ?_);refine z6 (wpAny_updateSeq_pair Ce fun g3 t3 hs3=> ?_);replace t3:IsPair g3 TO x b:=t3;refine z6 (wpAny_letGo (z7 ?_));refine z6 (z6 (wpAny_onRaise ?_));show wpAny _ _ (Builtin.SmallTypes.nextOf (.ref i2)>>=_) _ _ _;refine z6 (LK (kI (kI (kI h2 hs1.extBut D.i2z) hs2.extBut D.i12.symm) hs3.extBut D.TOi2.symm) (kS (kS (kS hl2 hs1.extBut D.l2z) hs2.extBut D.l2i1) hs3.extBut D.l2TO) hy fun g4 q2 vp=>z7 ?_);have t4:IsPair g4 TO x b:=vp.extBut _ _ D.TOi2 t3;refine z6 (wpAny_seqItems t4 rfl ?_);refine z6 (wpAny_updateSeq_pair t4 fun g5 t5 vq=> ?_);replace t5:IsPair g5 TO x y:=t5;refine z6 (wpAny_letGo (z7 (z7 ?_)));refine z6 (wpAny_seqItems t5 rfl ?_);refine z6 (wpAny_newTuple ?_);have hsz:g5.objs.size=s.heap.objs.size:=by rw[vq.1,vp.1,hs3.1,hs2.1,hs1.1]
 have La:IsZip g5 z TI TO .ellipsis:=vq.extBut _ _ D.TOz.symm (vp.extBut _ _ D.i2z.symm (hs3.extBut _ _ D.TOz.symm (hs2.extBut _ _ D.i1z.symm hz1)));have hk5:∀c o,c≠z ->c≠TO ->c≠i1 ->c≠i2 ->s.heap.get? c=some o ->g5.get? c=some o:=fun c o c1 c2 c3 c4 e=>vq.extBut _ _ c2 (vp.extBut _ _ c4 (hs3.extBut _ _ c2 (hs2.extBut _ _ c3 (hs1.extBut _ _ c1 e))));have r1:bW t1 g5 i1 l1 (k1+1):=kI (kI (kI q1 hs3.extBut D.TOi1.symm) vp.extBut D.i12) vq.extBut D.TOi1.symm;have r2:bW t2 g5 i2 l2 (k2+1):=kI q2 vq.extBut D.TOi2.symm;have Uq:z<g5.objs.size:=zK La;show wpAny _ _ (Builtin.SmallTypes.ownedTupleHandOut (.ref z) (.ref g5.objs.size)>>=_) _ _ _;refine z6 ?_;unfold Builtin.SmallTypes.ownedTupleHandOut;have hz6:IsZip (g5.push {cls:= .type "tuple",data:= .seq #[x,y]}) z TI TO .ellipsis:=z8 _ La;refine z6 (wpAny_setField_rec hz6 (by simp) fun g7 LQ LR=> ?_)
 replace LQ:IsZip g7 z TI TO (rawInt g5.objs.size):=LQ;refine wpAny_setField_rec LQ (by simp) fun g8 hz8 Ma=> ?_
 replace hz8:IsZip g8 z TI TO (rawInt g5.objs.size):=hz8;have up:∀c o,c≠z ->g5.get? c=some o ->g8.get? c=some o:=fun c o c1 e=>Ma.extBut _ _ c1 (LR.extBut _ _ c1 (z8 _ e));have hT8:IsPair g8 g5.objs.size x y:=Ma.extBut _ _ (Nat.ne_of_gt Uq) (LR.extBut _ _ (Nat.ne_of_gt Uq) (z9 _ rfl));have Ur:g8.objs.size=g5.objs.size+1:=by rw[Ma.1,LR.1,Heap.size_push]
 rw[hsz] at hz8 hT8 Ur;refine z7 ⟨_,rfl,?_⟩;show Q (.ref g5.objs.size) _;rw[hsz];exact hQ g8 hz8 (up _ _ D.TOz t5) (vo r1 fun o e=>up _ o D.i1z e) (vo r2 fun o e=>up _ o D.i2z e) hT8 Ur fun c o c1 c2 c3 c4 e=>up c o c1 (hk5 c o c1 c2 c3 c4 e)
theorem zr2{t1 t2:Bool}{z TI TO i1 i2 l1 l2:Addr}{k1 k2:Nat}{xs ys:Array Value}{a b:Value}{Q:Fin ->Shared ->Prop}(hh:A.handled=none)(D:ZipApart z TI TO i1 i2 l1 l2)(hz:IsZip s.heap z TI TO .none)(hTI:IsPair s.heap TI (.ref i1) (.ref i2))(hTO:IsPair s.heap TO a b)
  (h1:bW t1 s.heap i1 l1 k1) (h2:bW t2 s.heap i2 l2 k2) (hl1:cD t1 s.heap l1 xs) (hl2:cD t2 s.heap l2 ys) (hend:xs[k1]?=none\/ys[k2]?=none)
  (hE:∀h' e,(∀c o,c≠z ->c≠TO ->c≠i1 ->c≠i2 ->s.heap.get? c=some o ->h'.get? c=some o) ->(∃o,h'.get? e=some o/\o.cls= .type "StopIteration") ->E (.ref e) {s with heap:=h'}):wpAny (model prog w) A (Builtin.«zip.__next__» ⟨[.ref z],[]⟩) Q E s:=by
 have kI:∀{t:Bool} {h h' :Heap} {it l c:Addr} {i:Nat},bW t h it l i ->Heap.ExtBut c h h' ->it≠c ->bW t h' it l i:=fun x e n=>vo x fun o ho=>e _ o n ho;have kS:∀{t:Bool} {h h' :Heap} {l c:Addr} {ws:Array Value},cD t h l ws ->Heap.ExtBut c h h' ->l≠c ->cD t h' l ws:=fun x e n=>LC x fun o ho=>e _ o n ho;show wpAny _ _ (field (.ref z) 2>>=_) _ _ _;refine z6 (wpAny_field hz rfl (x:= .bool false) rfl ?_);show wpAny _ _ (field (.ref z) 3>>=_) _ _ _;refine z6 (wpAny_field hz rfl (x:= .ref TI) rfl ?_);refine z6 (wpAny_seqItems hTI rfl ?_);show wpAny _ _ (Builtin.SmallTypes.ownedTupleIsFree (.ref z)>>=_) _ _ _;refine z6 ?_;unfold Builtin.SmallTypes.ownedTupleIsFree;refine z6 (wpAny_field hz rfl (x:= .none) rfl (z7 ?_));simp only [if_true];refine z6 (wpAny_rule ?_);refine z6 (wpAny_field hz rfl (x:= .ref TO) rfl ?_);refine z6 (wpAny_setField_rec hz (by simp) fun g1 hz1 hs1=> ?_)
 replace hz1:IsZip g1 z TI TO .ellipsis:=hz1;refine z6 ?_;simp only [List.zipIdx_cons,List.zipIdx_nil,List.forIn_cons,List.forIn_nil];refine z6 (z6 (wpAny_onRaise ?_));show wpAny _ _ (Builtin.SmallTypes.nextOf (.ref i1)>>=_) _ _ _;cases hx:xs[k1]? with
 | none=>
  refine z6 (Uo hh (kI h1 hs1.extBut D.i1z) (kS hl1 hs1.extBut D.l1z) hx fun g2 e hs2 he=> ?_);obtain⟨oe,hoe,hce⟩:=he;have hz2:IsZip g2 z TI TO .ellipsis:=hs2 _ _ D.i1z.symm hz1;have hez:e≠z:=fun x=>by subst x;rw[hz2] at hoe;cases hoe;simp at hce
  exact wpAny_setField_rec hz2 (by simp) fun g3 _ hs3=>hE g3 e (fun c o c1 _ c3 _ x=>hs3.extBut _ _ c1 (hs2 _ _ c3 (hs1.extBut _ _ c1 x))) ⟨oe,hs3.extBut _ _ hez hoe,hce⟩
 | some x=>
  have hy:ys[k2]?=none:=by rcases hend with h | h;rw[hx] at h;cases h;exact h
  refine z6 (LK (kI h1 hs1.extBut D.i1z) (kS hl1 hs1.extBut D.l1z) hx fun g2 q1 hs2=>z7 ?_);have Ce :IsPair g2 TO a b:=hs2.extBut _ _ D.TOi1 (hs1.extBut _ _ D.TOz hTO);refine z6 (wpAny_seqItems Ce rfl ?_);refine z6 (wpAny_updateSeq_pair Ce fun g3 t3 hs3=> ?_);refine z6 (wpAny_letGo (z7 ?_));refine z6 (z6 (wpAny_onRaise ?_));show wpAny _ _ (Builtin.SmallTypes.nextOf (.ref i2)>>=_) _ _ _;refine z6 (Uo hh (kI (kI (kI h2 hs1.extBut D.i2z) hs2.extBut D.i12.symm) hs3.extBut D.TOi2.symm) (kS (kS (kS hl2 hs1.extBut D.l2z) hs2.extBut D.l2i1) hs3.extBut D.l2TO) hy fun g4 e vp he=> ?_);obtain⟨oe,hoe,hce⟩:=he;have wW:IsZip g4 z TI TO .ellipsis:=vp _ _ D.i2z.symm (hs3.extBut _ _ D.TOz.symm (hs2.extBut _ _ D.i1z.symm hz1));have hez:e≠z:=fun x=>by subst x;rw[wW] at hoe;cases hoe;simp at hce
  exact wpAny_setField_rec wW (by simp) fun g5 _ vq=>hE g5 e (fun c o c1 c2 c3 c4 x=>vq.extBut _ _ c1 (vp _ _ c4 (hs3.extBut _ _ c2 (hs2.extBut _ _ c3 (hs1.extBut _ _ c1 x))))) ⟨oe,vq.extBut _ _ hez hoe,hce⟩
theorem zne{t1 t2:Bool}{z TI TO i1 i2 l1 l2:Addr}{k1 k2:Nat}{xs ys:Array Value}{x y a b:Value}{Q:Option Value ->Shared ->Prop}(D:ZipApart z TI TO i1 i2 l1 l2)(hz:IsZip s.heap z TI TO .none)(hTI:IsPair s.heap TI (.ref i1) (.ref i2))(hTO:IsPair s.heap TO a b)
  (h1:bW t1 s.heap i1 l1 k1) (h2:bW t2 s.heap i2 l2 k2) (hl1:cD t1 s.heap l1 xs) (hl2:cD t2 s.heap l2 ys) (hx:xs[k1]?=some x) (hy:ys[k2]?=some y)
  (hQ:∀h',IsZip h' z TI TO (rawInt s.heap.objs.size) ->IsPair h' TO x y ->bW t1 h' i1 l1 (k1+1) ->bW t2 h' i2 l2 (k2+1) ->IsPair h' s.heap.objs.size x y ->h'.objs.size=s.heap.objs.size+1 ->
   (∀c o,c≠z ->c≠TO ->c≠i1 ->c≠i2 ->s.heap.get? c=some o ->h'.get? c=some o) ->Q (some (.ref s.heap.objs.size)) {s with heap:=h'}):wpAny (model prog w) A (pyNext (.ref z)) Q E s:=by
 have hT:s.TypeIs (.ref z) "zip" :=⟨_,hz,rfl⟩;unfold pyNext;exact z6 (wpAny_attempt (wpAny_callSpecial?_slot (name:=Str.ofString "__next__") hT F.slot_zip_next (wpAny_call_entry F.slot_zip_next hT F.entry_zip_next (zpi D hz hTI hTO h1 h2 hl1 hl2 hx hy fun h' a1 a2 a3 a4 a5 a6 a7=>z7 (hQ h' a1 a2 a3 a4 a5 a6 a7)) (F.args_zip_next_1 _))))
theorem zqc{t1 t2:Bool}{z TI TO i1 i2 l1 l2:Addr}{k1 k2:Nat}{xs ys:Array Value}{a b:Value}{Q:Option Value ->Shared ->Prop}(hh:A.handled=none)(D:ZipApart z TI TO i1 i2 l1 l2)(hz:IsZip s.heap z TI TO .none)(hTI:IsPair s.heap TI (.ref i1) (.ref i2))(hTO:IsPair s.heap TO a b)
  (h1:bW t1 s.heap i1 l1 k1) (h2:bW t2 s.heap i2 l2 k2) (hl1:cD t1 s.heap l1 xs) (hl2:cD t2 s.heap l2 ys) (hend:xs[k1]?=none\/ys[k2]?=none)
  (hQ:∀h',(∀c o,c≠z ->c≠TO ->c≠i1 ->c≠i2 ->s.heap.get? c=some o ->h'.get? c=some o) ->Q none {s with heap:=h'}):wpAny (model prog w) A (pyNext (.ref z)) Q E s:=by
 have hT:s.TypeIs (.ref z) "zip" :=⟨_,hz,rfl⟩;unfold pyNext;refine z6 (wpAny_attempt (wpAny_callSpecial?_slot (name:=Str.ofString "__next__") hT F.slot_zip_next (wpAny_call_entry F.slot_zip_next hT F.entry_zip_next (zr2 hh D hz hTI hTO h1 h2 hl1 hl2 hend fun h' e hk he=> ?_) (F.args_zip_next_1 _))));obtain⟨o,ho,hc⟩:=he;refine z6 (wpAny_isInstance (T:= "StopIteration") (b:=true) ⟨o,ho,hc⟩ isSubtype_stop ?_);exact z7 (hQ _ hk)
def Cg(t:Bool):String:=if t then "tuple_iterator" else "list_iterator"
abbrev GR(t1:Bool)(h:Heap)(l1:Addr):Heap:=h.push {cls:= .type (Cg t1),data:= .fields #[.ref l1,.int 0 0]}
abbrev GX(t1 t2:Bool)(h:Heap)(l1 l2:Addr):Heap:=(GR t1 h l1).push {cls:= .type (Cg t2),data:= .fields #[.ref l2,.int 0 0]}
abbrev GZ(t1 t2:Bool)(h:Heap)(l1 l2:Addr):Heap:=(GX t1 t2 h l1 l2).push {cls:= .type "tuple",data:= .seq #[.ref h.objs.size,.ref (GR t1 h l1).objs.size]}
abbrev G3(t1 t2:Bool)(h:Heap)(l1 l2:Addr):Heap:=(GZ t1 t2 h l1 l2).push {cls:= .type "tuple",data:= .seq #[.none,.none]}
abbrev yN(t1 t2:Bool)(h:Heap)(l1 l2:Addr):Heap:=(G3 t1 t2 h l1 l2).push {cls:= .type "zip",data:= .fields #[.none,.bool false,.bool false,.ref (GX t1 t2 h l1 l2).objs.size,.ref (GZ t1 t2 h l1 l2).objs.size]}
theorem zpt(x:cD t h l xs)(o:Obj):cD t (h.push o) l xs:=LC x fun _ e=>z8 _ e
theorem rA(hl:cD t s.heap l xs)
  (hQ:Q (.ref s.heap.objs.size) {s with heap:=s.heap.push {cls:= .type (Cg t),data:= .fields #[.ref l,.int 0 0]}}):wpAny (model prog w) A (pyIter (.ref l)) Q E s:=Ca hl hQ
theorem wX(t1 t2:Bool)(l1 l2:Addr)(xs ys:Array Value):Meets (Builtin.«zip.__new__» ⟨[.type "zip",.ref l1,.ref l2],[]⟩) (fun _ R s=>cD t1 s.heap l1 xs/\cD t2 s.heap l2 ys/\R (.ok (.ret (.ref (G3 t1 t2 s.heap l1 l2).objs.size))) {s with heap:=yN t1 t2 s.heap l1 l2}):=
 .of_wp fun prog w A R s h=>by
  obtain⟨hp,g,d,tk,os⟩:=s;obtain⟨hl1,hl2,h⟩:=h;have hsub:=sub_zip;have hL1:cD t1 (Shared.heap ⟨hp,g,d,tk,os⟩) l1 xs:=hl1;have hL2:cD t2 (Shared.heap ⟨hp.push {cls:= .type (Cg t1),data:= .fields #[.ref l1,.int 0 0]},g,d,tk,os⟩) l2 ys:=zpt hl2 _
  wp_walk using rA hL1,rA hL2
  exact⟨_,rfl,h⟩
theorem Us(e:h.get? a=some {cls:= .type (Cg t),data:= .fields #[.ref l,.int 0 0]}):bW t h a l 0:=by
 cases t<;>exact⟨_,e,rfl,rfl⟩
theorem zov(hl1:cD t1 s.heap l1 xs)(hl2:cD t2 s.heap l2 ys)
  (h:∀h',IsZip h' (s.heap.objs.size+4) (s.heap.objs.size+2) (s.heap.objs.size+3) .none ->IsPair h' (s.heap.objs.size+2) (.ref s.heap.objs.size) (.ref (s.heap.objs.size+1)) ->IsPair h' (s.heap.objs.size+3) .none .none ->bW t1 h' s.heap.objs.size l1 0 ->bW t2 h' (s.heap.objs.size+1) l2 0 ->
   (∀c o,s.heap.get? c=some o ->h'.get? c=some o) ->Q (.ref (s.heap.objs.size+4)) {s with heap:=h'}):wpAny (model prog w) A (call (.type "zip") [.ref l1,.ref l2]) Q E s:=by
 refine callType_new F.called_zip (by decide) (F.typeCall_zip_2 _ _) (F.newCall_zip_2 _ _) (fun obj=>F.args_object_init_3 obj _ _) F.entry_zip_new (wX t1 t2 l1 l2 xs ys) ⟨hl1,hl2,?_⟩
 have z1:(GR t1 s.heap l1).objs.size=s.heap.objs.size+1:=Heap.size_push ..;have z2:(GX t1 t2 s.heap l1 l2).objs.size=s.heap.objs.size+2:=by rw[Heap.size_push,z1]
 have z3:(GZ t1 t2 s.heap l1 l2).objs.size=s.heap.objs.size+3:=by rw[Heap.size_push,z2]
 have z4:(G3 t1 t2 s.heap l1 l2).objs.size=s.heap.objs.size+4:=by rw[Heap.size_push,z3]
 have g5:(yN t1 t2 s.heap l1 l2).get? (G3 t1 t2 s.heap l1 l2).objs.size=some _:=z9 _ rfl;have g4:(yN t1 t2 s.heap l1 l2).get? (GZ t1 t2 s.heap l1 l2).objs.size=some _:=z8 _ (z9 _ rfl);have g3:(yN t1 t2 s.heap l1 l2).get? (GX t1 t2 s.heap l1 l2).objs.size=some _:=z8 _ (z8 _ (z9 _ rfl));have g2:(yN t1 t2 s.heap l1 l2).get? (GR t1 s.heap l1).objs.size=some _:=z8 _ (z8 _ (z8 _ (z9 _ rfl)));have g1:(yN t1 t2 s.heap l1 l2).get? s.heap.objs.size=some _:=z8 _ (z8 _ (z8 _ (z8 _ (z9 _ rfl))));show _/\_;rw[z2,z3,z4] at g5;rw[z1,z2] at g3;rw[z3] at g4;rw[z1] at g2;rw[z4];exact⟨⟨_,g5,rfl⟩,h _ g5 g3 g4 (Us g1) (Us g2) fun c o x=>z8 _ (z8 _ (z8 _ (z8 _ (z8 _ x))))⟩
end
def Sq(t:Bool)(K:W.Frag)(H:Hp)(a:Addr)(xs:List V):Prop:=match t with | false=>dW K H a xs | true=>iw K H a xs
theorem yO(I:Inv X pins σ H s)(h:Sq t X.K H a xs):∃its:List Value,Vals xs its/\cD t s.heap a its.toArray/\xs.length<=sizeLine:=by
 cases t
 ·obtain⟨its,rv,p,hz⟩:=I.list h;exact⟨its,rv,p.isList,hz⟩
 ·obtain⟨its,rv,p,hz⟩:=I.tuple h;exact⟨its,rv,p,hz⟩
theorem Ut(I:Inv X pins σ H s)(h:Sq t X.K H a xs)(h' :Sq t X.K H a ys):xs=ys:=by
 cases t
 ·exact I.list_inj h h'
 ·exact I.tuple_inj h h'
def Mf(K:W.Frag)(t1 t2:Bool)(a b:Addr):It:=
 ⟨fun i H=>∃xs ys x y,Sq t1 K H a xs/\Sq t2 K H b ys/\xs[i]?=some x/\ys[i]?=some y,fun i H v H' =>∃c x y,v= .ref c/\H c=none/\H' =upd H c (.tup [x,y])/\ (∀xs,Sq t1 K H a xs ->xs[i]?=some x)/\∀ys,Sq t2 K H b ys ->ys[i]?=some y,
  fun i H=>∃xs ys,Sq t1 K H a xs/\Sq t2 K H b ys/\ (xs.length<=i\/ys.length<=i)⟩
theorem zap{n l1 l2:Nat}(h1:l1<n)(h2:l2<n):lF (n+4) (n+2) (n+3) n (n+1) l1 l2:=by
 have e:∀a b:Nat,a≠b ->(a:Addr)≠b:=fun _ _ h=>h;refine⟨⟨e _ _ ?_,e _ _ ?_,e _ _ ?_,e _ _ ?_,e _ _ ?_,e _ _ ?_,e _ _ ?_,e _ _ ?_,e _ _ ?_,e _ _ ?_⟩,e _ _ ?_,e _ _ ?_,e _ _ ?_,e _ _ ?_,e _ _ ?_,e _ _ ?_,e _ _ ?_,e _ _ ?_⟩<;>omega
theorem zr7{P:Program}{w:World}{K:W.Frag}{elts:List Expr}{x1}{pos:Pos}(t1 t2:Bool)(a b z TI TO i1 i2:Addr)(D:lF z TI TO i1 i2 a b):Turn P w K (.Tuple elts x1 pos) (Mf K t1 t2 a b) [z,TI,TO,i1,i2] z
  (fun i h=>IsZip h z TI TO .none/\IsPair h TI (.ref i1) (.ref i2)/\ (∃u v,IsPair h TO u v)/\bW t1 h i1 a i/\bW t2 h i2 b i) where
 mem:=by simp
 obj:=fun i h q c hc=>by
  obtain⟨q1,q2,⟨u,v,q3⟩,q4,q5⟩:=q;simp only [List.mem_cons,List.not_mem_nil,or_false] at hc;rcases hc with rfl | rfl | rfl | rfl | rfl
  ·exact⟨_,q1,fun v z=>by cases z⟩
  ·exact⟨_,q2,fun v z=>by cases z⟩
  ·exact⟨_,q3,fun v z=>by cases z⟩
  ·exact GQ q4
  ·exact GQ q5
 keep:=fun i h h' q k=>by
  obtain⟨q1,q2,⟨u,v,q3⟩,q4,q5⟩:=q;exact⟨k z (by simp) _ q1,k TI (by simp) _ q2,⟨u,v,k TO (by simp) _ q3⟩,vo q4 fun o e=>k i1 (by simp) o e,vo q5 fun o e=>k i2 (by simp) o e⟩
 item:=by
  intro X hP hw hK hc i pins s σ H E I hf q hg;obtain⟨q1,q2,⟨u,v,q3⟩,q4,q5⟩:=q;subst hP hw hK;obtain⟨xs,ys,x,y,hq1,hq2,hx,hy⟩:=hg;obtain⟨its,rv,p,_⟩:=yO I hq1;obtain⟨jts,G4,p2,_⟩:=yO I hq2;obtain⟨ux,hux,rux⟩:=rv.get hx;obtain⟨uy,huy,ruy⟩:=G4.get hy;have lt:∀c∈ [z,TI,TO,i1,i2],c<s.heap.objs.size:=fun c hc=>by
   simp only [List.mem_cons,List.not_mem_nil,or_false] at hc;rcases hc with rfl | rfl | rfl | rfl | rfl
   ·exact zK q1
   ·exact zK q2
   ·exact zK q3
   ·obtain⟨o,e,_⟩:=GQ q4;exact zK e
   ·obtain⟨o,e,_⟩:=GQ q5;exact zK e
  have Dk:=D.k;refine zne Dk q1 q2 q3 q4 q5 p p2 (x:=ux) (y:=uy) (by simpa using hux) (by simpa using huy) fun h1 a1 a2 a3 a4 a5 a6 k1=> ?_
  refine⟨_,rfl,wpAny_letOwnedTupleGo_zip a1 fun h2 e2 sb=> ?_⟩;have yP:Heap.SameBut z h1 h2:=sb;have zl:=lt z (by simp)
  have I2:Inv X pins σ (upd H s.heap.objs.size (.tup [x,y])) {s with heap:=h2,toks:=s.toks}:=
   zuf (fp:= [z,TI,TO,i1,i2]) (its:= [ux,uy]) I (fun c o hb e=>yP.extBut c o (fun y=>hb (by simp [y])) (k1 c o (fun y=>hb (by simp [y])) (fun y=>hb (by simp [y])) (fun y=>hb (by simp [y])) (fun y=>hb (by simp [y])) e))
    lt ((yP.2 _ (Nat.ne_of_gt zl)).trans a5) (.cons rux (.cons ruy .nil)) (by show(2:Nat)<=sizeLine;decide) hf
  refine⟨.ref s.heap.objs.size,_,I2,rfl,⟨_,x,y,rfl,I.fresh,rfl,fun zs hz=>by rw[Ut I hz hq1];exact hx,fun zs hz=>by rw[Ut I hz hq2];exact hy⟩,⟨e2,?_,⟨ux,uy,yP.extBut _ _ Dk.TOz a2⟩,vo a3 fun o e=>yP.extBut _ o Dk.i1z e,vo a4 fun o e=>yP.extBut _ o Dk.i2z e⟩,fun c hc=> ?_⟩
  ·exact yP.extBut _ _ Dk.TIz (k1 _ _ Dk.TIz Dk.TITO Dk.TIi1 Dk.TIi2 q2)
  ·exact(Ui (hf c hc) (zM (lt c hc))).1
 done:=by
  intro X hP hw hK hc i pins s σ H E I hf q hg;obtain⟨q1,q2,⟨u,v,q3⟩,q4,q5⟩:=q;subst hP hw hK;obtain⟨xs,ys,hq1,hq2,hx⟩:=hg;obtain⟨its,rv,p,_⟩:=yO I hq1;obtain⟨jts,G4,p2,_⟩:=yO I hq2;have l1:=rv.length;have l2:=G4.length;refine zqc (I.ok.hd hc) D.k q1 q2 q3 q4 q5 p p2 ?_ fun h' k1=>⟨rfl,Uh (t' :=s.toks) (fp:= [z,TI,TO,i1,i2]) I (fun c o hb e=>k1 c o (fun y=>hb (by simp [y])) (fun y=>hb (by simp [y])) (fun y=>hb (by simp [y])) (fun y=>hb (by simp [y])) e) hf⟩
  rcases hx with hx | hx
  ·exact .inl (by simp;omega)
  ·exact .inr (by simp;omega)
 self:=fun _ _ _ _ _ q h=>wpAny_pyIter_zip q.1 h
theorem zrx:bootBuiltins "zip" =some (.type "zip"):=by decide+kernel
def Mg(K:W.Frag)(ta:TA):TI:=fun σ H R=>ta σ H fun vs H1=>∃t1 t2 a b xs ys,vs= [.ref a,.ref b]/\Sq t1 K H1 a xs/\Sq t2 K H1 b ys/\ (xs.length<=sizeLine ->ys.length<=sizeLine ->R (Mf K t1 t2 a b) H1)
theorem zxb{X:Cx}{a b:Expr}{ta:TA}{p pos:Pos}{elts:List Expr}{x1}{pt:Pos}(hg:Gl X "zip")(hm:X.mg "zip" =none)(ha:PA X [a,b] ta)(hs:starEach [a,b] X.env=(false,eval a X.env)::starEach [b] X.env:=by rfl)(hpl:(backTo pos (starEach [b] X.env)).any (·.1)=false:=by rfl):
  PI X (.Tuple elts x1 pt) (.Call (.Name "zip" p) [a,b] [] pos) (Mg X.K ta):=by
 intro pins s σ H R I h;refine Call_ (uX I hg hm zrx (PyProof.Rows.callWith_type1 (aY (ha pos pins s σ H _ I h) fun us s1 ⟨vs,H1,I1,r1,q1⟩=> ?_) hs hpl));obtain⟨t1,t2,l1,l2,xs,ys,rfl,hq1,hq2,q⟩:=q1;cases r1 with
 | cons r rr=>
  cases rr with
  | cons r' rr=>
   cases rr;cases r;cases r';obtain⟨its,rv,p1,hz1⟩:=yO I1 hq1;obtain⟨jts,G4,p2,hz2⟩:=yO I1 hq2;have n1:l1<s1.heap.objs.size:=by cases t1<;>exact let ⟨o,e,_⟩:=p1;zK e
   have n2:l2<s1.heap.objs.size:=by cases t2<;>exact let ⟨o,e,_⟩:=p2;zK e
   refine zov p1 p2 fun h' e1 e2 e3 e4 e5 kp=> ?_;refine wpAny_pyIter_zip e1 ⟨s1.heap.objs.size+4,[s1.heap.objs.size+4,s1.heap.objs.size+2,s1.heap.objs.size+3,s1.heap.objs.size,s1.heap.objs.size+1],_,_,H1,rfl,I1.kept (t' :=s1.toks) kp,
    zr7 t1 t2 l1 l2 _ _ _ _ _ (zap n1 n2),⟨e1,e2,⟨_,_,e3⟩,e4,e5⟩,fun c hc=> ?_,q hz1 hz2⟩
   have hb2:s1.heap.objs.size<=c:=by
    simp only [List.mem_cons,List.not_mem_nil,or_false] at hc;rcases hc with rfl | rfl | rfl | rfl | rfl
    ·exact Nat.le_add_right _ _
    ·exact Nat.le_add_right _ _
    ·exact Nat.le_add_right _ _
    ·exact zO _
    ·exact Nat.le_add_right _ _
   exact I1.fpOk hb2 (I1.hok.fresh hb2)
def mH(xs ys:List D):List D:=List.zipWith (fun x y=> .tup [x,y]) xs ys
theorem Uu{K:W.Frag}{F:Hp}{t1 t2:Bool}{a b:Addr}{vs us:List V}{xs ys:List D}(hq1:∀H1,Same F H1 ->Sq t1 K H1 a vs)(hq2:∀H1,Same F H1 ->Sq t2 K H1 b us)(r1:ak K F xs vs)(r2:ak K F ys us)(hz:vs.length<=sizeLine):wJ K F Bw (Mf K t1 t2 a b) (mH xs ys):=by
 have l1:=fY r1;have l2:=fY r2;have lz:(mH xs ys).length=min xs.length ys.length:=List.length_zipWith;refine⟨by omega,fun i H2 F2 s2 s3 _=>⟨fun e=>⟨vs,us,hq1 H2 (s2.trans s3),hq2 H2 (s2.trans s3),by omega⟩,fun d hd=> ?_⟩⟩
 unfold mH at hd;rw[List.getElem?_zipWith] at hd;cases e1:xs[i]? with
 | none=>rw[e1] at hd;cases hd
 | some x=>
  cases e2:ys[i]? with
  | none=>rw[e1,e2] at hd;cases hd
  | some y=>
   rw[e1,e2] at hd;cases hd;obtain⟨v,hv,rv⟩:=o9 r1 e1;obtain⟨u,hu,ru⟩:=o9 r2 e2;refine⟨⟨vs,us,v,u,hq1 H2 (s2.trans s3),hq2 H2 (s2.trans s3),hv,hu⟩,fun w H' z=> ?_⟩;obtain⟨c,v2,u2,rfl,hc,rfl,z1,z2⟩:=z;have:=z1 vs (hq1 H2 (s2.trans s3));rw[hv] at this;cases this;have:=z2 us (hq2 H2 (s2.trans s3));rw[hu] at this;cases this;have gr:=Gr.laid (o:=HO.tup [v,u]) s3 hc;refine⟨_,gr,?_⟩;unfold Rep;exact⟨c,_,rfl,.inl (.inl iu),pq ((rv.up s2).up gr.f) (pq ((ru.up s2).up gr.f) (by unfold ak;rfl))⟩
def sqD:D ->Option (Bool×List D) | .lst xs=>some (false,xs) | .tup xs=>some (true,xs) | _=>none
def Mh(t:aO):aO:=fun Γ P E=>t Γ (fun ds Γ1=>match ds with | [x,y]=>(match x,y with | .lst xs,.lst ys=>P (mH xs ys) Γ1 | .tup xs,.tup ys=>P (mH xs ys) Γ1 | _,_=>False) | _=>False) E
section
variable{X:Cx}{F0 H0:Hp}{a b e tg:Expr}{es:List Expr}{pos p pt:Pos}{te:aB}{t:aO}{elts:List Expr}
theorem zx0{x1}(hc:X.calm=true)(hg:Gl X "zip")(hm:X.mg "zip" =none)(ha:QA X F0 H0 [a,b] t)(hs:starEach [a,b] X.env=(false,eval a X.env)::starEach [b] X.env:=by rfl)(hpl:(backTo pos (starEach [b] X.env)).any (·.1)=false:=by rfl):
  QI X F0 H0 (.Tuple elts x1 pt) (.Call (.Name "zip" p) [a,b] [] pos) (Mh t):=fun z E cx=>Gy (zxb (X:=X.wsh z) hg hm (ha z E cx) hs hpl) fun σ H R hq2=>by obtain⟨F,Γ,P,S,q,k⟩:=hq2;exact⟨F,Γ,_,S,q,fun ds Γ1 F1 H1 vs R1 s1 r1 h1=>by
  unfold Mh at*;split at h1
  ·split at h1
   ·unfold ak ak ak Rep at r1;obtain⟨v,_,rfl,⟨l,us,rfl,hq,rs⟩,⟨v2,_,rfl,⟨l2,Mi,rfl,hq2,yM⟩,rfl⟩⟩:=r1;exact⟨false,false,l,l2,us,Mi,rfl,R1.g.seq hq,R1.g.seq hq2,fun hz _=>k _ Γ1 F1 H1 _ R1 s1 (Uu (t1:=false) (t2:=false) (fun H s=>s.seq hq) (fun H s=>s.seq hq2) rs yM hz) h1⟩
   ·unfold ak ak ak Rep at r1;obtain⟨v,_,rfl,⟨l,us,rfl,hq,rs⟩,⟨v2,_,rfl,⟨l2,Mi,rfl,hq2,yM⟩,rfl⟩⟩:=r1;exact⟨true,true,l,l2,us,Mi,rfl,jy R1.g hq,jy R1.g hq2,fun hz _=>k _ Γ1 F1 H1 _ R1 s1 (Uu (t1:=true) (t2:=true) (fun H s=>jy s hq) (fun H s=>jy s hq2) rs yM hz) h1⟩
   ·exact h1.elim
  ·exact h1.elim⟩
end
def vA:List Str ->List D ->Str ->Option D
 | f::fs,d::ds,g=>if g=f then some d else vA fs ds g
 | _,_,_=>none
def aav(C:Addr)(f:Str)(te:aB):aB:=fun Γ P E=>te Γ (fun d Γ1=>match d with | .obj C' fs ds=>C' =C/\∃x,vA fs ds f=some x/\P x Γ1 | _=>False) E
def Uv(C:Addr)(m:Str)(sp:bH)(te:aB)(t:aO):aB:=fun Γ P E=>te Γ (fun d Γ1=>match d with
 | .obj C' fs ds=>C' =C/\m∉fs/\t Γ1 (fun es Γ2=>sp (.obj C' fs ds::es) (fun r=>P r Γ2) fun Cx=>E Γ2 Cx) E
 | _=>False) E
section
variable{X:Cx}{F0 H0:Hp}{e o:Expr}{es:List Expr}{pos p apos:Pos}{f m:Str}{C fa:Addr}{fd:FuncData}{ps:List Str}{k:Nat}{sp:bH}{te:aB}{t:aO}
end
def wY(K:W.Frag)(C:Addr)(f:Str)(sp:bH):Sp:=fun vs H Q E=>∃x dx rest F ds Pd Ex,vs= .ref x::rest/\H x=some (.ins C dx [])/\H dx=some (.own x)/\dx≠x/\Same F H/\F x=none/\F dx=none/\ak K F ds rest/\sp ds Pd Ex/\
 (∀d F' H' H3 v,Gr F H F' H3 ->Rep K F' d v ->Pd d ->H' =upd H3 x (.ins C dx [(f,v)]) ->Q .non H')/\n8 K F H Ex E
theorem znq(h:cN P w outer H2 s2 E e s')(os:s2.os=s.os)(un:Un (frs outer) [] H H2 s.heap s2.heap)(kp:∀b o,s.heap.get? b=some o ->s2.heap.get? b=some o):cN P w outer H s E e s' :=by
 obtain⟨a,C,H',B,dx,h1,h2,h3,h4,h5,h6,h7,h8,h9⟩:=h;exact⟨a,C,H',B,dx,h1,h2.trans os,h3,un.trans h4,h5,h6,fun b o e n=>h7 b o (kp b o e) n,h8,h9⟩
def Uw(C:Addr)(f:Str)(sp:bH):bH:=fun ds P E=>sp ds (fun d=>P (.obj C [f] [d])) E
section
variable{P:Program}{w:World}{K:W.Frag}{mg:Str ->Option Value}{base:Heap}
end
section
variable{X:Cx}{F0 H0:Hp}{e:Expr}{es:List Expr}{pos p:Pos}{x fl:Str}{C f:Addr}{fd:FuncData}{ps:List Str}{k:Nat}{sp:bH}{t:aO}
end
structure Mt2 (P:Program) (w:World) (K:W.Frag) (mg:Str ->Option Value) (base:Heap) (C:Addr) (m:Str) (k:Nat) (ps:List Str) (sp:bH):Prop where
 ex:∃f fd,cJ P w K mg base (cN P w) k f fd ps (jC K sp)/\Meth K C m f/\Binds K fd ps []
structure Mk2 (P:Program) (w:World) (K:W.Frag) (mg:Str ->Option Value) (base:Heap) (x:Str) (C:Addr) (fl:Str) (k:Nat) (ps:List Str) (sp:bH):Prop where
 ex:∃f fd,cJ P w K mg base (cN P w) k f fd ps (wY K C fl sp)/\Mk K C f/\mg x=some (.ref C)/\Binds K fd ps []
def aaw(te:aB)(tl th:tQ):aB:=fun Γ P E=>te Γ (fun d Γ1=>tl Γ1 (fun l Γ2=>th Γ2 (fun u Γ3=>match d with | .tup xs=>¬(HT.sIx xs.length 0 l=0/\HT.sIx xs.length xs.length u=xs.length)/\P (.tup (cutD xs l u)) Γ3 | _=>False) E) E) E
section
variable{X:Cx}{F0 H0:Hp}{e o:Expr}{lo hi:Option Expr}{es:List Expr}{pos p p2 apos:Pos}{x m fl:Str}{C:Addr}{ps:List Str}{k:Nat}{sp:bH}{te:aB}{tl th:tQ}{t:aO}
def aax:bH:=fun _ _ _=>False
end
mutual
def iV:D ->Prop
 | .lst _=>False
 | .exc _=>False
 | .fB _ _=>False
 | .fU _ _=>False
 | .n6 _ _=>False
 | .tup xs=>gh xs
 | .obj _ fs xs=>pK fs=false/\gh xs
 | _=>True
def gh:List D ->Prop
 | []=>True
 | d::ds=>iV d/\gh ds
end
section
variable{K:W.Frag}{F F' :Hp}{A:Addr ->Prop}
mutual
theorem zty(hA:∀b u,F b=some u ->LD u\/F' b=some u):∀(d:D) (v:V),iV d ->Rep K F d v ->Rep K F' d v
 | .non,_,_,h=>by unfold Rep at h⊢;exact h
 | .bl _,_,_,h=>by unfold Rep at h⊢;exact h
 | .int _,_,_,h=>by unfold Rep at h⊢;exact h
 | .str _,_,_,h=>by unfold Rep at h⊢;exact h
 | .ptr _,_,_,h=>by unfold Rep at h⊢;exact h
 | .tup ds,_,n,h=>by
  unfold iV at n;unfold Rep at h⊢;obtain⟨a,vs,h0,h1,h2⟩:=h;refine⟨a,vs,h0,?_,G5 hA ds vs n h2⟩;rcases h1 with (h1 | ⟨o,h1⟩) | h1
  ·rcases hA _ _ h1 with z | z
   ·exact z.tup.elim
   ·exact .inl (.inl z)
  ·rcases hA _ _ h1 with z | z
   ·exact z.frz.elim
   ·exact .inl (.inr ⟨o,z⟩)
  ·exact .inr h1
 | .obj C fs ds,_,n,h=>by
  unfold iV at n;unfold Rep at h⊢;obtain⟨a,dx,vs,h0,h1,h3,h4⟩:=h;refine⟨a,dx,vs,h0,?_,h3,G5 hA ds vs n.2 h4⟩;rcases hA _ _ h1 with z | z
  ·have:=z.ins;rw[JZ h3,n.1] at this;cases this
  ·exact z
 | .lst _,_,n,_=>by unfold iV at n;exact n.elim
 | .exc _,_,n,_=>by unfold iV at n;exact n.elim
 | .fB _ _,_,n,_=>by unfold iV at n;exact n.elim
 | .fU _ _,_,n,_=>by unfold iV at n;exact n.elim
 | .n6 _ _,_,n,_=>by unfold iV at n;exact n.elim
theorem G5(hA:∀b u,F b=some u ->LD u\/F' b=some u):∀(ds:List D) (vs:List V),gh ds ->ak K F ds vs ->ak K F' ds vs
 | [],_,_,h=>by unfold ak at h⊢;exact h
 | d::ds,_,n,h=>by
  unfold gh at n;unfold ak at h⊢;obtain⟨v,r,h0,h1,h2⟩:=h;exact⟨v,r,h0,zty hA d v n.1 h1,G5 hA ds r n.2 h2⟩
end
end
def Ux(te:aB):aB:=fun Γ P _=>te (gQ Γ) (fun d _=>iV d/\P d Γ) dX
section
variable{X:Cx}{F0 H0:Hp}{e:Expr}{te:aB}
open Classical in
end
theorem Uy{K:W.Frag}{F:Hp}{d:D}{v:V}(h:Rep K F d v):∀{ds:List D} {vs:List V} (j:Nat),ak K F ds vs ->ak K F (ds.set j d) (vs.set j v)
 | [],vs,j,r=>by unfold ak at r;subst r;unfold ak;rfl
 | x::ds,vs,j,r=>by
  unfold ak at r;obtain⟨u,us,rfl,r1,r2⟩:=r;cases j with
  | zero=>exact pq h r2
  | succ j=>exact pq r1 (Uy h j r2)
def Ci(i:Nat)(ti te:aB):aq:=fun D Γ E=>te Γ (fun d Γ1=>(∃xs,Γ1[i]?=some (.ow xs))/\ti Γ1 (fun k Γ2=>match k,Γ2[i]? with
 | .int k,some (.ow xs)=>∃j,nW xs.length k=some j/\D.nx (Γ2.set i (.ow (xs.set j d)))
 | _,_=>False) E) E
section
variable{X:Cx}{F0 H0:Hp}{x:Str}{pos pos' npos:Pos}{e k:Expr}{i:Nat}{te ti:aB}
theorem zvu(hN:X.N[i]?=some x)(hv:nP X.env.scope x)(hk:QE X F0 H0 k ti)(he:QE X F0 H0 e te)(hd:(x==("__debug__" :Str))=false:=by decide)(hcd:(x==("__classdict__" :Str))=false:=by decide)
  (ha:∀v,assign (.Subscript (.Name x npos) k pos') X.env v=(do
   let ov<- holding [v] (eval (.Name x npos) X.env)
   let iv<- holding [v,ov] (eval k X.env)
   standAt pos'
   holding [v,ov,iv] (setItem ov iv v)
   release [v,ov,iv] []):=by intro _;rfl)
  (hs:swapsWithSole [.Subscript (.Name x npos) k pos'] e pos.line X.env=pure false:=by rfl) (hw:swappedStores [.Subscript (.Name x npos) k pos'] e X.env=pure none:=by rfl)
  (h1:(assignEach [.Subscript (.Name x npos) k pos'] X.env).map (·.2)= [assign (.Subscript (.Name x npos) k pos') X.env]:=by rfl):
  QS X F0 H0 (.Assign [.Subscript (.Name x npos) k pos'] e pos) (Ci i ti te):=fun z E cx=>
 j9 (Y5 (X:=X.wsh z) (he z E cx) (Y4 (X:=X.wsh z) (tG (X:=X.wsh z) (i:=i) hN hv hd hcd) (hk z E cx) zra ha) hs hw h1) fun Dn σ H hq1=>by obtain⟨F,Γ,D2,R,h,kk⟩:=hq1;exact⟨F,Γ,_,R,h,fun d Γ1 F1 H1 v R1 s1 r1 h1=>by
  obtain⟨⟨xs,e0⟩,h2⟩:=h1;obtain⟨o,e1,a,vs,rfl,g1,g2,g3,r⟩:=R1.sl i _ e0;refine⟨.ref a,e1,F1,Γ1,_,R1,h2,fun k Γ2 F2 H2 kv R2 s2 rk q=> ?_⟩;split at q
  ·rename_i k' xs' e2;obtain⟨j,hj,q⟩:=q;obtain⟨o,e3,a',ws,rfl,w1,w2,w3,lR⟩:=R2.sl i _ e2;rw[e1] at e3;cases e3;unfold Rep at rk;subst rk;have hl:=fY lR;refine⟨a,ws,k',j,rfl,rfl,w1,by rw[<- hl];exact hj,?_⟩
   exact kk.nx _ _ _ _ (R2.wr e2 e1 (Uy (r1.up s2) j lR)) (s1.trans s2) q
  ·exact q.elim⟩
end
section
variable(K:W.Frag)(F0 H0:Hp)
def upR(t:aB)(E:XW):TE:=fun σ H Q=>∃F Γ P,SR K F0 H0 F H σ Γ/\t Γ P E/\∀d Γ' F' H' v,SR K F0 H0 F' H' σ Γ' ->Same F F' ->Rep K (cW F0 F') d v ->P d Γ' ->Q v H'
def Mj(t:aO)(E:XW):TA:=fun σ H Q=>∃F Γ P,SR K F0 H0 F H σ Γ/\t Γ P E/\∀ds Γ' F' H' vs,SR K F0 H0 F' H' σ Γ' ->Same F F' ->ak K (cW F0 F') ds vs ->P ds Γ' ->Q vs H'
end
def QR(X:Cx)(F0 H0:Hp)(e:Expr)(t:aB):Prop:=∀z E,Ctx (X.wsh z) F0 H0 E ->PE (X.wsh z) e (upR X.K F0 H0 t E)
def QRA(X:Cx)(F0 H0:Hp)(es:List Expr)(t:aO):Prop:=∀z E,Ctx (X.wsh z) F0 H0 E ->PA (X.wsh z) es (Mj X.K F0 H0 t E)
section
variable{X:Cx}{F0 H0:Hp}{e:Expr}{es:List Expr}{pos:Pos}{te:aB}
def cNl(te:aB):aB:=fun Γ P E=>te Γ (fun d Γ1=>iV d/\P d Γ1) E
def aay(i:Nat):aB:=fun Γ P _=>match Γ[i]? with
 | some (.ow ds)=>gh ds/\P (.lst ds) (Γ.set i (.pu (.lst ds)))
 | _=>False
theorem zog{K:W.Frag}{F:Hp}{a:Addr}{vs:List V}(h0:F0 a=none)(h:dW K F a vs):dW K (cW F0 F) a vs:=by
 have e:cW F0 F a=F a:=J1 fun _ _ q=>by rw[h0] at q;cases q
 rcases h with h | h
 ·left;unfold Rd at h⊢;rw[e];exact h
 ·exact .inr h
def Cj(t:aO):aB:=fun Γ P E=>t Γ (fun ds Γ1=>gh ds/\P (.lst ds) Γ1) E
def Uz(te:aB):aq:=fun D Γ E=>te Γ (fun d _=>D.rf d) E
end
def Ck(K:W.Frag)(sp:bH):Sp:=fun vs H Q E=>∃F ds P Ex,Same F H/\ak K F ds vs/\sp ds P Ex/\ (∀d v F' H',Gr F H F' H' ->Rep K (cW F F') d v ->P d ->Q v H')/\n8 K F H Ex E
structure aaz (P:Program) (w:World) (K:W.Frag) (mg:Str ->Option Value) (base:Heap) (x:Str) (k:Nat) (ps:List Str) (sp:bH):Prop where
 ex:∃f fd,cJ P w K mg base (cN P w) k f fd ps (Ck K sp)/\mg x=some (.ref f)/\W.keepIn K (.ref f)=true/\Binds K fd ps []
section
variable{P:Program}{w:World}{K:W.Frag}{mg:Str ->Option Value}{base:Heap}
end
section
variable{X:Cx}{F0 H0:Hp}{e:Expr}{es:List Expr}{pos p:Pos}{x:Str}{f:Addr}{fd:FuncData}{ps:List Str}{k:Nat}{sp:bH}{t:aO}{te:aB}
def rB(te:aB):aB:=fun Γ P _=>te (gQ Γ) (fun d _=>P d Γ) dX
open Classical in
end
def aaA(tf:aO)(tb:aB):aO:=fun Γ P E=>tf Γ (fun xs Γ1=>tb Γ1 (fun d Γ2=>match d with | .int k=>(-(2^63)<=k/\k<2^63/\xs.length*k.toNat<=sizeLine)/\P (List.replicate k.toNat xs).flatten Γ2 | _=>False) E) E
section
variable{X:Cx}{F0 H0:Hp}{a b:Expr}{pos:Pos}{tf:aO}{tb:aB}
end
def Ml{α:Type}(lt:Nat ->Nat ->Bool):W.KasT α ->α
 | .ret a=>a
 | .ask i j k=>Ml lt (k (lt i j))
def Mp{α:Type}(lt:Nat ->Nat ->Bool)(n:Nat):W.KasT α ->Bool
 | .ret _=>true
 | .ask i j k=>decide (i<n)&&(decide (j<n)&&(decide (i≠j)&&Mp lt n (k (lt i j))))
def Mq(h:Heap)(v:Value)(i:Int):Prop:=∃(x:Addr) (o:Obj) (xs:Array Value) (m:Nat) (t:Tok),v= .ref x/\h.get? x=some o/\o.cls= .type "tuple" /\o.data= .seq xs m/\xs[0]?=some (.int i t)
inductive rC (h:Heap):List Value ->List Int ->Prop
 | nil:rC h [] []
 | cons {v i vs is}:Mq h v i ->rC h vs is ->rC h (v::vs) (i::is)
def ltI(ns:List Int)(i j:Nat):Bool:=decide (ns.getD i 0<ns.getD j 0)
def rD(ns:List Int):List Nat:=if ns.length<2 then List.range ns.length else(Ml (ltI ns) (W.kas_sort ns.length)).toList
def Cm(ns:List Int):Prop:=ns.length<2\/ (ns.length<64/\ns.Nodup/\Mp (ltI ns) ns.length (W.kas_sort ns.length)=true)
section
variable{prog:Program}{w:World}{A:Around}{E:bf}{s:Shared}
end
def UG:List D ->Option (List Int)
 | []=>some []
 | .tup (.int i::_)::r=>(UG r).map (i:: ·)
 | _::_=>none
def zwj:List D ->(List D ->Prop) ->Prop:=fun ds P=>match ds with | [.lst xs]=>∃ns,UG xs=some ns/\Cm ns/\ (∀i∈rD ns,i<ns.length)/\ (rD ns).length<=sizeLine/\P ((rD ns).map fun i=>xs.getD i .non) | _=>False
def pY(xs:List Nat):Prop:=xs.Pairwise (· < ·)
theorem Cp(h:pY xs)(hij:i<j)(hj:j<xs.length):xs[i]'(Nat.lt_trans hij hj)<xs[j]:=List.pairwise_iff_getElem.mp h i j _ hj hij
structure G6 (xs:List Nat) (j b:Nat):Prop where
 le:b<=xs.length
 lo:∀(k:Nat) (h:k<xs.length),k<b ->xs[k]<j
 hi:∀(k:Nat) (h:k<xs.length),b<=k ->j<=xs[k]
theorem Mr(hr:pY xs.toList):∀(f lo hi:Nat),lo<=hi ->hi<=xs.toList.length ->hi - lo<=f ->(∀(k:Nat) (h:k<xs.toList.length),k<lo ->xs.toList[k]<j) ->(∀(k:Nat) (h:k<xs.toList.length),hi<=k ->j<=xs.toList[k]) ->G6 xs.toList j (SetTable.below.go xs j f lo hi)
 | 0,lo,hi,h1,h2,h3,h4,h5=>by
  unfold SetTable.below.go;obtain rfl:lo=hi:=by omega
  exact⟨h2,h4,h5⟩
 | f+1,lo,hi,h1,h2,h3,h4,h5=>by
  unfold SetTable.below.go;by_cases hl:lo<hi
  ·rw[if_pos hl];have hm1:lo<=(lo+hi)/2:=by omega
   have hm2:(lo+hi)/2<hi:=by omega
   have hm:(lo+hi)/2<xs.toList.length:=by omega
   have hg:xs.getD ((lo+hi)/2) j=xs.toList[(lo+hi)/2]:=by
    have:(lo+hi)/2<xs.size:=by simpa using hm
    simp [Array.getD,this]
   dsimp only;rw[hg];by_cases hc:xs.toList[(lo+hi)/2]<j
   ·rw[if_pos hc];refine Mr hr f _ hi (by omega) h2 (by omega) (fun k hk hlt=> ?_) h5
    by_cases e:k=(lo+hi)/2
    ·subst e;exact hc
    ·exact Nat.lt_trans (Cp hr (by omega:k< (lo+hi)/2) hm) hc
   ·rw[if_neg hc];refine Mr hr f lo _ (by omega) (by omega) (by omega) h4 fun k hk hle=> ?_
    by_cases e:k=(lo+hi)/2
    ·subst e;omega
    ·have:=Cp hr (by omega:(lo+hi)/2<k) hk
     omega
  ·rw[if_neg hl];obtain rfl:lo=hi:=by omega
   exact⟨h2,h4,h5⟩
theorem UJ(hr:pY xs.toList)(j:Nat):G6 xs.toList j (SetTable.below xs j):=by
 unfold SetTable.below;exact Mr hr _ 0 _ (Nat.zero_le _) (by simp) (by omega) (fun k _ h=>by omega) fun k hk h=>by simp at hk;omega
theorem zwq(h:G6 xs j b)(k:G6 xs j c):b=c:=by
 rcases Nat.lt_trichotomy b c with q | q | q
 ·have hb:b<xs.length:=zN q k.le;have:=k.lo b hb q;have:=h.hi b hb (zO _);omega
 ·exact q
 ·have hc:c<xs.length:=zN q h.le;have:=h.lo c hc q;have:=k.hi c hc (zO _);omega
theorem zvl(hr:pY xs.toList)(hn:xs[SetTable.below xs j]?≠some j):pY (SetTable.insertAt xs (SetTable.below xs j) j).toList:=by
 rw[SetTable.toList_insertAt];have hb:=UJ hr j;generalize SetTable.below xs j=b at*;have hn' :∀(h:b<xs.toList.length),xs.toList[b]≠j:=fun h e=>hn (by rw[<- Array.getElem?_toList,List.getElem?_eq_getElem h,e])
 unfold pY;rw[List.pairwise_append];refine⟨hr.take,?_,fun a ha c hc=> ?_⟩
 ·rw[List.pairwise_cons];refine⟨fun c hc=> ?_,hr.drop⟩;obtain⟨k,hk,rfl⟩:=List.mem_iff_getElem.mp hc;rw[List.length_drop] at hk;rw[List.getElem_drop];have h1:=hb.hi (b+k) (by omega) (by omega)
  by_cases e:k=0
  ·subst e;have:=hn' (by omega)
   simp only [Nat.add_zero] at h1⊢;omega
  ·have:=Cp hr (by omega:b<b+k) (by omega)
   have:=hb.hi b (by omega) (zO _)
   omega
 ·obtain⟨k,hk,rfl⟩:=List.mem_iff_getElem.mp ha;rw[List.length_take] at hk;rw[List.getElem_take];have h1:=hb.lo k (by omega) (by omega)
  rcases zV.mp hc with rfl | hc
  ·exact h1
  ·obtain⟨m,hm,rfl⟩:=List.mem_iff_getElem.mp hc;rw[List.length_drop] at hm;rw[List.getElem_drop];have:=hb.hi (b+m) (by omega) (by omega)
   omega
theorem znm(hr:pY xs.toList)(hi:i<=xs.toList.length):SetTable.below xs (if h:0<i then xs.toList[i - 1]'(by omega)+1 else 0)=i:=by
 refine zwq (UJ hr _) ⟨hi,fun k hk hlt=> ?_,fun k hk hle=> ?_⟩
 ·rw[dif_pos (by omega)]
  by_cases e:k=i - 1
  ·subst e;exact Nat.lt_succ_self _
  ·have:=Cp hr (by omega:k<i - 1) (by omega)
   omega
 ·split
  ·rename_i h0;have:=Cp hr (by omega:i - 1<k) hk
   omega
  ·exact Nat.zero_le _
structure pZ (led:Bool) (t:SetTable):Prop where
 G7:pY t.place.toList
 G8:t.dummies= #[]
 led:t.led=led
theorem zoo:pZ led (.fresh 0 0 led):=⟨by simp [SetTable.fresh,pY],rfl,rfl⟩
theorem zpb(n:Nat):pY (Array.range n).toList:=by
 unfold pY;rw[Array.toList_range];exact List.pairwise_lt_range
theorem G9(h:pZ led t)(n:Nat):pZ led (t.standIn n):=⟨zpb n,rfl,h.led⟩
theorem zp1(h:pZ led t):pZ led {t with plain:=false}:=⟨h.G7,h.G8,h.led⟩
theorem UL(j:Nat):SetTable.has #[] j=false:=by simp [SetTable.has]
theorem UW{t:SetTable}(hd:t.dummies= #[]){j:Nat}:(t.slot j= .empty ->t.place[SetTable.below t.place j]?≠some j)/\t.slot j≠ .dummy:=by
 unfold SetTable.slot;rw[hd,UL];dsimp only;split
 ·exact⟨fun z=>(by cases z),fun z=>(by cases z)⟩
 ·rename_i q;simp only [Bool.false_eq_true,if_false];exact⟨fun _=>(by simpa using q),fun z=>(by cases z)⟩
theorem U0{t:SetTable}(hd:t.dummies= #[]){ha:Nat ->Int}{h:Int}:∀(f:Nat) (p:SetTable.Probe) {j:Nat} {dm:Option Nat},p.dummy=none ->SetTable.probe.go t ha h f p=some (.empty j dm) ->dm=none/\t.slot j= .empty
 | 0,p,j,dm,_,e=>by unfold SetTable.probe.go at e;cases e
 | f+1,p,j,dm,hp,e=>by
  have adv:(t.advance p).dummy=none:=by
   unfold SetTable.advance;split<;>exact hp
  unfold SetTable.probe.go at e;split at e
  ·rename_i q;cases e;exact⟨hp,q⟩
  ·rename_i q;exact absurd q (UW hd).2
  ·rename_i i q;split at e
   ·cases e
   ·exact U0 hd f _ adv e
theorem zu9{led:Bool}{t:SetTable}(h:pZ led t)(es:Array (Int×Value))(k:Int)(x:Value):pZ led (layNew t es k x).2.1:=by
 unfold layNew;split
 ·rename_i slot wd q;unfold SetTable.freeSlot at q;split at q
  ·rename_i j dm e;cases q;obtain⟨rfl,hs⟩:=U0 h.G8 _ _ rfl e;have hn:=(UW h.G8).1 hs;dsimp only [Option.getD_none];have hp:pZ led (t.put j).1:=⟨zvl h.G7 hn,by show(if SetTable.has t.dummies j=true then _ else t.dummies)= #[];rw[h.G8,UL];rfl,h.led⟩
   unfold SetTable.orStandIn;split
   ·exact hp
   ·exact G9 hp _
  ·cases q
 ·exact G9 h _
theorem zqb(h:pZ led t)(es:Array (Int×Value))(n:Nat):pZ led (relayAll t es n).2.1:=by
 unfold relayAll;split
 ·rename_i t' order q;dsimp only;split
  ·unfold SetTable.relaid SetTable.laid at q;cases e:SetTable.layClean (SetTable.sizeAbove n - 1) (es.map (·.1)) with
   | none=>rw[e] at q;cases q
   | some owner=>
    rw[e] at q;cases q;refine⟨?_,rfl,h.led⟩;show pY (((List.range (SetTable.sizeAbove n - 1+1)).filterMap fun j=>(owner.getD j none).map (j, ·)).map (·.1));have sub:∀l:List Nat,((l.filterMap fun j=>(owner.getD j none).map (j, ·)).map (·.1)).Sublist l:=by
     intro l;induction l with
     | nil=>exact List.Sublist.refl _
     | cons a r ih=>
      rw[List.filterMap_cons];cases owner.getD a none with
      | none=>exact ih.cons _
      | some v=>exact ih.cons₂ _
    exact List.Pairwise.sublist (sub _) List.pairwise_lt_range
  ·exact G9 h _
 ·exact G9 h _
section
variable{prog:Program}{w:World}{κ:Type}[DecidableEq κ](knd:KeyKind prog w κ)(kf:Value ->κ)
structure gR (led:Bool) (o:Obj) (ks:List κ) (es:Array (Int×Value)) (ep:Nat) (t:SetTable):Prop where
 ex:o.ExactSet
 dat:o.data= .set es ep t
 el:ElemsOf knd es.toList
 fit:t.fits es.size=true
 tok:pZ led t
 key:(es.toList.map fun e=>kf e.2).Perm ks
def jt(led:Bool)(h:Heap)(a:Addr)(ks:List κ):Prop:=∃o es ep t,h.get? a=some o/\gR knd kf led o ks es ep t
def iW(ks:List κ)(k:κ):List κ:=if k∈ks then ks else ks++ [k]
variable{knd kf}(hkf:∀k v,knd.is k v=true ->kf v=k)
include hkf
theorem zvk(el:ElemsOf knd es):k∈es.map (fun e=>kf e.2)↔∃e∈es,knd.is k e.2=true:=by
 rw[List.mem_map];constructor
 ·rintro⟨e,he,rfl⟩;obtain⟨⟨k',hk',_⟩,_⟩:=el e he;exact⟨e,he,by rw[hkf k' _ hk'];exact hk'⟩
 ·rintro⟨e,he,hk⟩;exact⟨e,he,hkf k _ hk⟩
variable{A:Around}{E:bf}{s:Shared}{a:Addr}{ks:List κ}{led:Bool}
theorem U3{h:Heap}{o:Obj}{es:Array (Int×Value)}{ep:Nat}{t:SetTable}(hg:h.get? a=some o)(hd:o.data= .set es ep t)(es' :Array (Int×Value))(t' :SetTable):
  (h.update a (Obj.putSet es' t')).get? a=some {o with data:= .set es' (ep+1) t'}:=by
 have z:=Heap.get?_update_self (Obj.putSet es' t') hg (by rw[putSet_of es' t' hd];rfl)
 rwa [putSet_of es' t' hd] at z
omit hkf in
theorem gR.put(S:gR knd kf led o ks es ep t)(el:ElemsOf knd es'.toList)(fit:t'.fits es'.size=true)(tok:pZ led t')(key:(es'.toList.map fun e=>kf e.2).Perm ks'):
  gR knd kf led {o with data:= .set es' (ep+1) t'} ks' es' (ep+1) t' :=⟨S.ex,rfl,el,fit,tok,key⟩
theorem zxg{k:κ}{x:Value}{Q:Bool ->Shared ->Prop}(hx:knd.is k x=true)(hsc:x.scannable=true)(S:jt knd kf led s.heap a ks)(hb:ks.length+1<scanBound)
  (h:∀b h',Heap.SameBut a s.heap h' ->jt knd kf led h' a (iW ks k) ->Q b {s with heap:=h'}):wpAny (model prog w) A (setAddHashed a x (knd.hash k)) Q E s:=by
 obtain⟨o,es,ep,t,hg,S⟩:=S;have hsz:es.size=ks.length:=by
  have:=S.key.length_eq
  simpa using this
 have hmem:=zvk hkf S.el (k:=k);unfold setAddHashed setAddHashedIn;refine wpAny_holding (vs:= [x]) (z6 (m:=setState a) (wpAny_setState_of hg S.dat S.fit ?_));dsimp only;rw[byScan_of hsc (by omega:es.size<scanBound) S.el]
 simp only [↓reduceIte];unfold setAddByScan;refine z6 (z6 (m:=rule _) (wpAny_rule (z6 (m:=setScan a x _ _ _) (wpAny_setScan_of hx hg S.dat S.fit S.el ?_))));cases hr:List.findIdx? (fun e=>knd.is k e.2) es.toList with
 | some j=>
  dsimp only;obtain⟨hj,hpj,_⟩:=List.findIdx?_eq_some_iff_getElem.mp hr;have hk:k∈ks:=S.key.mem_iff.mp (hmem.mpr ⟨_,zH hj,hpj⟩);refine z7 (α:=_) (z7 (α:=_) ?_);have z:=h false s.heap (Heap.SameBut.refl a s.heap) ⟨o,es,ep,t,hg,by unfold iW;rw[if_pos hk];exact S⟩
  exact z
 | none=>
  dsimp only;have hk:k∉ks:=fun q=>by
   obtain⟨e,he,hp⟩:=hmem.mp (S.key.mem_iff.mpr q);have:=List.findIdx?_eq_none_iff.mp hr e he;rw[hp] at this;cases this
  have hperm:=layNew_perm t es (knd.hash k) x;have hfits:=layNew_fits t es (knd.hash k) x;have rE:=zu9 S.tok es (knd.hash k) x;generalize layNew t es (knd.hash k) x=lay at hperm hfits rE⊢;obtain⟨es1,t1,wd,gave⟩:=lay;dsimp only at hperm hfits rE⊢;rw[Array.toList_push] at hperm;have el1:ElemsOf knd es1.toList:=(S.el.push hx hsc).perm hperm;have key1:(es1.toList.map fun e=>kf e.2).Perm (iW ks k):=by
   unfold iW;rw[if_neg hk];refine(hperm.map _).trans ?_;rw[List.map_append];refine List.Perm.append S.key ?_;show [kf x].Perm [k];rw[hkf k x hx]
  have sz1:es1.size=es.size+1:=by
   have:=hperm.length_eq
   simpa using this
  have Cq:es1.size<=sizeLine:=fits_of_scanBound (by omega)
  have gw:∀(b:Bool) {s₁:Shared} {Q' :Unit ->Shared ->Prop},Q' () s₁ ->wpAny (model prog w) A (match b with | true=>rule "set.scan.the-table-gave-way" | false=>pure ()) Q' E s₁:=
   fun b s₁ Q' q=>by
    cases b with
    | true=>exact wpAny_rule q
    | false=>exact z7 (α:=_) q
  have tail:∀t2:SetTable,t2.fits es1.size=true ->pZ led t2 ->wpAny (model prog w) A (do
    storeSet a es1 t2
    if (!wd&&t2.tooFull)=true then do
      (match (relayAll t2 es1 (SetTable.grown es1.size)).2.2 with | true=>rule "set.scan.the-table-gave-way" | false=>pure ())
      storeSet a (relayAll t2 es1 (SetTable.grown es1.size)).1 (relayAll t2 es1 (SetTable.grown es1.size)).2.1
      pure (some true)
     else pure (some true)) (fun r s' =>wpAny (model prog w) A (match r with | some added=>pure added | none=>setAddHashedIn a x (knd.hash k) 99999) Q E s') E s:=by
   intro t2 f2 k2;refine z6 (m:=storeSet a es1 t2) (wpAny_storeSet_of hg S.dat ?_ Cq);have g1:=U3 (hkf:=hkf) hg S.dat es1 t2;have S1:=S.put (ks' :=iW ks k) el1 f2 k2 key1;have U4:=Heap.SameBut.update s.heap a (Obj.putSet es1 t2);split
   ·have hp2:=relayAll_perm t2 es1 (SetTable.grown es1.size);have hf2:=relayAll_fits t2 es1 (SetTable.grown es1.size);have Ms:=zqb k2 es1 (SetTable.grown es1.size);generalize relayAll t2 es1 (SetTable.grown es1.size)=rl at hp2 hf2 Ms⊢;obtain⟨es2,t3,gave2⟩:=rl;dsimp only at hp2 hf2 Ms⊢;have sz2:es2.size=es1.size:=by
     have:=hp2.length_eq
     simpa using this
    refine z6 (gw gave2 ?_);refine z6 (m:=storeSet a es2 t3) (wpAny_storeSet_of g1 rfl ?_ (by omega))
    have S2:=S1.put (ks' :=iW ks k) (el1.perm hp2) hf2 Ms ((hp2.map _).trans key1);refine z7 (α:=_) (z7 (α:=_) ?_);exact h true _ (U4.trans (Heap.SameBut.update _ a _)) ⟨_,_,_,_,U3 (hkf:=hkf) g1 rfl es2 t3,S2⟩
   ·exact z7 (α:=_) (z7 (α:=_) (h true _ U4 ⟨_,_,_,_,g1,S1⟩))
  refine z6 (gw gave ?_);split
  ·refine z6 ?_;rw[hashByValue_scannable 8 hsc];refine z7 (α:=_) ?_;refine tail _ ?_ ?_
   ·split
    ·exact hfits
    ·exact SetTable.fits_plain_off hfits
   ·split
    ·exact rE
    ·exact zp1 rE
  ·refine z6 (z7 (α:=_) ?_);simp only [↓reduceIte];exact tail _ hfits rE
end
abbrev d7(w:World):Bool:= !(w.params.followText "set-order")
abbrev uL(w:World):Obj:={cls:= .type "set",dict:=none,data:= .set #[] 0 (.fresh 0 0 (d7 w))}
def eH{κ:Type}[DecidableEq κ](val:Nat ->κ):Nat ->List κ
 | 0=> []
 | i+1=>iW (eH val i) (val i)
theorem Mt [DecidableEq κ](val:Nat ->κ):∀i,(eH val i).length<=i
 | 0=>zO _
 | i+1=>by
  have ih:=Mt val i;show(iW (eH val i) (val i)).length<=i+1;unfold iW;split
  ·omega
  ·rw[List.length_append,List.length_singleton];omega
theorem U5 [DecidableEq κ](val:Nat ->κ):∀{i},k∈eH val i↔∃j,j<i/\val j=k
 | 0=>by simp [eH]
 | i+1=>by
  have ih:=U5 val (k:=k) (i:=i);have e:k∈eH val (i+1)↔k∈eH val i\/k=val i:=by
   show k∈iW (eH val i) (val i)↔_;unfold iW;split
   ·rename_i q;constructor
    ·exact .inl
    ·rintro(z | rfl)
     ·exact z
     ·exact q
   ·rw[List.mem_append,List.mem_singleton]
  rw[e,ih];constructor
  ·rintro(⟨j,hj,rfl⟩ | rfl)
   ·exact⟨j,by omega,rfl⟩
   ·exact⟨i,by omega,rfl⟩
  ·rintro⟨j,hj,rfl⟩;by_cases q:j=i
   ·subst q;exact .inr rfl
   ·exact .inl ⟨j,by omega,rfl⟩
theorem U6 [DecidableEq κ](val:Nat ->κ):∀i,(eH val i).Nodup
 | 0=>List.nodup_nil
 | i+1=>by
  have ih:=U6 val i;show(iW (eH val i) (val i)).Nodup;unfold iW;split
  ·exact ih
  ·rename_i q;rw[List.nodup_append];refine⟨ih,by simp,fun a ha b hb=> ?_⟩
   rw[List.mem_singleton] at hb;subst hb;exact fun z=>q (z ▸ ha)
theorem zse{prog:Program}{w:World}{κ:Type}[DecidableEq κ]{knd:KeyKind prog w κ}{kf:Value ->κ}:gR knd kf (d7 w) (uL w) [] #[] 0 (.fresh 0 0 (d7 w)):=
 ⟨⟨rfl,rfl,rfl⟩,rfl,fun e he=>by simp at he,by rfl,zoo,by simp⟩
section
variable{prog:Program}{w:World}{κ:Type}[DecidableEq κ]{knd:KeyKind prog w κ}{kf:Value ->κ}(hkf:∀k v,knd.is k v=true ->kf v=k)
theorem jt.stay(S:jt knd kf led h a ks)(e:∀o,h.get? a=some o ->h'.get? a=some o):jt knd kf led h' a ks:=by
 obtain⟨o,es,ep,t,hg,S⟩:=S;exact⟨o,es,ep,t,e o hg,S⟩
include hkf
theorem zsl{A:Around}{R:Result ->Shared ->Prop}{I:Addr}{fp wr:List Addr}{G:Array GenState ->Array GenState ->Prop}{n:Nat}{P:Nat ->Value ->Prop}{St:Nat ->Shared ->Prop}
  (W:WalksS prog w A.in1 I fp wr G n P St) {S:Addr} (hS:S∉fp) {val:Nat ->κ} (hv:∀i v,P i v ->knd.is (val i) v=true/\v.scannable=true) (hb:n+1<scanBound) {led:Bool}:
  ∀(j i:Nat) (s:Shared),i+j=n ->St i s ->jt knd kf led s.heap S (eH val i) ->
   (∀s',Moved (S::wr) G s s' ->jt knd kf led s'.heap S (eH val n) ->R (.ok (.ret .none)) s') ->codeAny (model prog w) A (.builtin "set.update.loop" ⟨[.ref S,.ref I],[]⟩) R s:=by
 have hw:S∉wr:=fun q=>hS (W.sub _ q);have grow:∀b∈wr,b∈S::wr:=fun b q=>zX _ q;intro j;induction j with
 | zero=>
  intro i s hij st hs hR;obtain rfl:i=n:=by omega
  refine codeAny_builtin PyProof.Rows.F.entry_set_update_loop ?_;rw[Around.under_plainId PyProof.Rows.F.plain_set_update_loop _];show wpAny _ _ (pyNext (.ref I)>>=_) _ _ _;refine z6 (m:=pyNext (.ref I)) (W.done s _ _ st fun s' hm=> ?_);show wpAny _ _ (ret Value.none) _ _ _;exact z7 (α:=_) (hR s' (hm.mono grow) (hs.stay fun o e=>hm.heap S o hw e))
 | succ j ih=>
  intro i s hij st hs hR;refine codeAny_builtin PyProof.Rows.F.entry_set_update_loop ?_;rw[Around.under_plainId PyProof.Rows.F.plain_set_update_loop _];show wpAny _ _ (pyNext (.ref I)>>=_) _ _ _;refine z6 (m:=pyNext (.ref I)) (W.item i s _ _ (by omega) st fun v s1 hP st1 hm=> ?_)
  obtain⟨hk,hc⟩:=hv i v hP;have hs1:=hs.stay (h' :=s1.heap) fun o e=>hm.heap S o hw e;show wpAny _ _ (holding [v] (setAdd S v)>>=_) _ _ _;refine z6 (m:=holding [v] (setAdd S v)) (wpAny_holding (vs:= [v]) ?_);unfold setAdd;refine wpAny_holding (vs:= [v]) (z6 (m:=pyHash v) (knd.pyHash hk ?_));refine zxg hkf (s:={s1 with toks:=s1.toks+1}) hk hc hs1 (by have:=Mt val i;omega) fun _ h2 sb S2=> ?_
  refine z7 (α:=_) ⟨plainId_quiet PyProof.Rows.F.plain_set_update_loop _,ih (i+1) _ (by omega) (W.frame _ s1 h2 _ st1 (Nat.le_succ _) fun b hb o e=> ?_) S2 fun s3 hm3 S3=> ?_⟩
  ·exact(sb.2 b fun z=>hS (z ▸ hb)).trans e
  ·refine hR s3 (Moved.trans W.gtrans ((hm.mono grow).then_heap (Nat.le_succ _) fun b o hb e=> ?_) hm3) S3;exact(sb.2 b fun z=>hb (z ▸ zY)).trans e
end
section
variable{prog:Program}{w:World}{A:Around}{E:bf}{s:Shared}
theorem zkf(v:Value)(h:Q₁ (.ref s.heap.objs.size) {s with heap:=s.heap.push (uL w)}):
  codeAny (model prog w) A (.call (.builtin "set.__new__") ⟨[.type "set",v],[]⟩) (wants Q₁ E) s:=by
 refine codeAny_of_tree ?_;show wpAny _ A.in1 (checkBuiltinCall "set.__new__" ⟨[.type "set",v],[]⟩>>=fun _=>again (.builtin "set.__new__" ⟨[.type "set",v],[]⟩)) _ _ s;refine z6 (wpAny_of_eq (PySem.F.newCall_set_1 v) (z7 (α:=_) ⟨plainId_quiet PySem.F.plain_set_new _,codeAny_builtin PySem.F.entry_set_new ?_⟩));rw[Around.under_plainId PySem.F.plain_set_new _];unfold Builtin.«set.__new__» Builtin.Frozenset.newClass;have hsub:=sub_set_self;obtain⟨hp,g,d,tk,os⟩:=s;dsimp only
 wp_walk
 refine wpAny_askSetting (z7 (α:=_) ?_);dsimp only;simp only [newObj];exact z6 (wpAny_alloc (z7 (α:=_) (z7 (α:=_) h)))
end
section
variable{prog:Program}{w:World}{κ:Type}[DecidableEq κ]{knd:KeyKind prog w κ}{kf:Value ->κ}(hkf:∀k v,knd.is k v=true ->kf v=k){A:Around}{E:bf}{s:Shared}
include hkf
set_option maxHeartbeats 3200000 in
theorem zlk{l:Addr}{items:Array Value}{val:Nat ->κ}{Q:bf}(hh:A.handled=none)(hl:s.heap.IsList l items)(hv:∀i v,items[i]?=some v ->knd.is (val i) v=true/\v.scannable=true)(hb:items.size+1<scanBound)
  (h:∀(h' :Heap) (tk:Nat),jt knd kf (d7 w) h' s.heap.objs.size (eH val items.size) ->(∀b o,s.heap.get? b=some o ->h'.get? b=some o) ->Q (.ref s.heap.objs.size) {s with heap:=h',toks:=tk}):
  wpAny (model prog w) A (call (.type "set") [.ref l]) Q E s:=by
 obtain⟨c,tl,hmro⟩:=PySem.F.called_set.mro;have hmade:=PySem.F.called_set.made;have hsub:=PySem.F.called_set.sub;refine wpAny_call (codeAny_of_tree ?_);show wpAny _ _ (callAny (.type "set") _) _ _ _;refine z7 (α:=_) ⟨Code.quiet_builtin _ (by decide+kernel),codeAny_builtin PySem.F.entry_type_call ?_⟩
 rw[Around.under_plain (weight_type_call_type "set" [.ref l] []) rfl];have q1:=PySem.F.called_set.notType;have q2:=PySem.F.called_set.canCreate;have q3:=PySem.F.typeCall_set_1 (.ref l)
 (repeat (any_goals (first | assumption | wp_step)));skip
 refine codeAny_mono (zkf (.ref l) (E:=E) (Q₁:=fun obj s₁=>obj= .ref s.heap.objs.size/\s₁={s with heap:=s.heap.push (uL w)}) ⟨rfl,rfl⟩) fun r s₁ hr=> ?_;cases r with
 | error e=>exact hr
 | ok fl=>
  cases fl with
  | ret obj=>
   obtain⟨rfl,rfl⟩:=hr;have hS:(s.heap.push (uL w)).get? s.heap.objs.size=some (uL w):=z9 _ rfl;have hT:Shared.TypeIs {s with heap:=s.heap.push (uL w)} (.ref s.heap.objs.size) "set" :=⟨_,hS,rfl⟩;have q4:=PySem.F.called_set.init.lookup;have q5:=PySem.F.called_set.init.bind (.ref s.heap.objs.size)
   (repeat (any_goals (first | assumption | wp_step)));skip
   refine codeAny_mono (codeAny_call_builtin (R:=wants (fun r s₂=>r= .none/\∃h' tk,s₂={s with heap:=h',toks:=tk}/\jt knd kf (d7 w) h' s.heap.objs.size (eH val items.size)/\
     ∀b o,s.heap.get? b=some o ->h'.get? b=some o) E) PySem.F.called_set.init.plain PySem.F.entry_set_init (check_set_init_1 hT ?_)) fun r₂ s₂ hr₂=> ?_
   ·obtain⟨ol,hol,hcl,nl,hdl⟩:=hl;obtain⟨oc,od,ot,os⟩:=ol;simp only at hcl hdl;subst hcl;subst hdl;have hol' :(s.heap.push (uL w)).get? l=some {cls:= .type "list",dict:=od,data:= .seq items nl,slots:=os}:=z8 _ hol;have q6:=PySem.F.sub_list_set;have q7:=PySem.F.sub_list_frozenset;have q8:(Value.type "list" ==Value.type "dict")=false:=by decide
    have hl1:(s.heap.push (uL w)).IsList l items:=⟨_,hol',rfl,nl,rfl⟩;unfold Builtin.«set.__init__» noKeywords Builtin.Frozenset.updateFrom;generalize hPI:pyIter=PI
    wp_walk
    subst hPI;refine wpAny_pyIter_list hl1 (z6 (wpAny_runValue ?_));have hlS:l<s.heap.objs.size:=zK hol;have hh3:A.in1.in1.in1.handled=none:=by simp [hh]
    have yQ:(s.heap.push (uL w)).objs.size=s.heap.objs.size+1:=Heap.size_push ..;refine zsl hkf (led:=d7 w) ((Walks.list hh3 _ l (by rw[yQ];exact zM (Nat.lt_succ_of_lt hlS)) items).toS) (S:=s.heap.objs.size) ?_ hv hb items.size 0 _ (Nat.zero_add _)
     ⟨⟨_,z9 _ rfl,rfl,rfl⟩,hl1.push _⟩ ⟨_,_,_,_,z8 _ hS,zse⟩ fun s' hm hS' => ?_
    ·rw[yQ];simp only [List.mem_cons,List.not_mem_nil,or_false,not_or];exact⟨zM (Nat.lt_succ_self _),Nat.ne_of_gt hlS⟩
    ·obtain⟨h',g',d',tk',os'⟩:=s';obtain rfl:g' =s.gens:=hm.gens;obtain rfl:d' =s.drawn:=hm.drawn;obtain rfl:os' =s.os:=hm.os;refine z7 (α:=_) ?_;show wpAny _ _ (ret Value.none) _ _ _;refine z7 (α:=_) ⟨rfl,h',tk',rfl,hS',fun b o e=> ?_⟩;have hlt:=zK e;refine hm.heap b o ?_ (z8 _ (z8 _ e));rw[yQ];simp only [List.mem_cons,List.not_mem_nil,or_false,not_or];exact⟨zM hlt,zM (Nat.lt_succ_of_lt hlt)⟩
   ·cases r₂ with
    | error e=>exact hr₂
    | ok fl₂=>
     cases fl₂ with
     | ret r=>
      obtain⟨rfl,h',tk,rfl,hS',hk'⟩:=hr₂
      (repeat (any_goals (first | assumption | wp_step)));skip
      exact h _ _ hS' hk'
     | _=>exact hr₂.elim
  | _=>exact hr.elim
end
theorem iY:PySem.Slot "set_iterator" "__next__" "set_iterator.__next__" := .of (owner:= "set_iterator") (n:= "__next__") (by rw[typeLookup_type,builtinLookup_eq_fast];kernel_rfl) (by decide+kernel) (by decide+kernel) (by decide+kernel) (by first | exact .inl (by decide+kernel) | exact .inr (by decide+kernel)) (by rw[isSubtype_type];kernel_rfl)
theorem zwv:entryFor table "set_iterator.__next__" =some Builtin.«set_iterator.__next__»:=entryFor_of_tree (by kernel_rfl)
theorem zw9(v:Value):argsOk "set_iterator.__next__" ⟨[v],[]⟩:=by unfold argsOk;kernel_rfl
theorem zsq:entryFor table "set.__iter__" =some Builtin.«frozenset.__iter__»:=entryFor_alias (id' := "frozenset.__iter__") (by kernel_rfl) rfl (by decide+kernel) (by kernel_rfl)
def nM(h:Heap)(I:Addr)(fst:Value)(i:Nat)(S:Addr)(n ep:Nat):Prop:=∃o,h.get? I=some o/\o.cls= .type "set_iterator" /\o.data= .fields #[fst,.int i 0,.ref S,.int n 0,.int ep 0]
theorem nM.ty{s:Shared}{I S:Addr}{fst:Value}{i n ep:Nat}(x:nM s.heap I fst i S n ep):s.TypeIs (.ref I) "set_iterator" :=let ⟨o,ho,hc,_⟩:=x;⟨o,ho,hc⟩
theorem nM.at(x:nM h I fst i S n ep)(e:∀o,h.get? I=some o ->h'.get? I=some o):nM h' I fst i S n ep:=let ⟨o,ho,r⟩:=x;⟨o,e o ho,r⟩
theorem U7(hi:i<xs.length):(xs[i]::xs.eraseIdx i).Perm xs:=by
 rw[List.eraseIdx_eq_take_drop_succ];refine List.perm_middle.symm.trans ?_;rw[<- List.drop_eq_getElem_cons hi,List.take_append_drop]
section
variable{prog:Program}{w:World}{A:Around}{E:bf}{s:Shared}
theorem zpx(hn:n≠0)(h:∀i d,i<n ->Q i {s with drawn:=d}):wpAny (model prog w) A (choose src n) Q E s:=fun Γ p _=>by
 unfold choose;rw[Sem.wp_choose];exact⟨hn,h _ _ (Nat.mod_lt _ (Nat.pos_of_ne_zero hn))⟩
theorem zjr(n:Nat):∀(xs:List α) {s:Shared} {Q:List α ->Shared ->Prop},xs.length=n ->(∀ys d,ys.Perm xs ->Q ys {s with drawn:=d}) ->wpAny (model prog w) A (drawOrder n xs) Q E s:=by
 induction n with
 | zero=>
  intro xs s Q hn h;have:xs= []:=List.length_eq_zero_iff.mp hn;subst this;unfold drawOrder;exact z7 (α:=_) (h [] s.drawn (.refl _))
 | succ n ih=>
  intro xs s Q hn h;cases xs with
  | nil=>cases hn
  | cons x xs=>
  unfold drawOrder;refine z6 (m:=choose _ _) (zpx (by simp) fun i d hi=> ?_)
  rw[List.getElem?_eq_getElem hi];dsimp only;refine z6 (ih ((x::xs).eraseIdx i) ?_ fun ys d' hp=>z7 (α:=_) (h _ d' ?_))
  ·rw[List.length_eraseIdx_of_lt hi];omega
  ·refine(hp.cons _).trans ?_;exact U7 hi
section
variable{S I:Addr}{fst:Value}{i n ep:Nat}{o:Obj}{es:Array (Int×Value)}{t:SetTable}
theorem Mu(hh:A.handled=none)(hQ:∀h',Heap.ExtBut I h0 h' ->Q none {s with heap:=h'})(hk:Heap.ExtBut I h0 s.heap):
  wpAny (model prog w) A.in1 (newExc (.type "StopIteration") []>>=fun e=>(raiseNew e:Sem PySem.Fin)) (fun _ _=>False)
   (fun e s' =>wpAny (model prog w) A (do if<- isInstance e (.type "StopIteration") then pure (none:Option Value) else throw e) Q E s') s:=by
 refine z6 ?_;simp only [newExc,newTuple];refine z6 (wpAny_newObj_type ?_ (by size_fits))
 refine z6 (m:=firstArgMember _ _) (wpAny_of_eq (a:=Value.none) (by first | rfl | (simp only [firstArgMember];rfl)) ?_)
 refine wpAny_newObj_type ?_ (by size_fits)
 simp only [raiseNew];refine z6 (m:=_) (wpAny_handled ?_);rw[show A.in1.handled=none by simp [hh]]
 refine z6 (z7 (α:=_) (wpAny_throw (α:=_) ?_));refine z6 (m:=isInstance _ _) (wpAny_isInstance (T:= "StopIteration") (b:=true) ⟨_,z9 _ rfl,rfl⟩ isSubtype_stop ?_);exact z7 (α:=_) (hQ _ ((hk.push _).push _))
end
end
section
variable{prog:Program}{w:World}{κ:Type}[DecidableEq κ]{knd:KeyKind prog w κ}{kf:Value ->κ}{A:Around}{E:bf}{s:Shared}{S I:Addr}{fst:Value}{i n ep:Nat}{o:Obj}{es:Array (Int×Value)}{t:SetTable}{led:Bool}{ks:List κ}
theorem yR(hit:nM s.heap I fst i S n ep)(hg:s.heap.get? S=some o)(O:gR knd kf led o ks es ep t)(hn:es.size=n)
  (h:wpAny (model prog w) A.in1 (if let .int slot _:=fst then do
    match<- setNext S slot.toNat i ep with
    | some (x,next)=>
     setField (.ref I) 0 (rawInt next)
     setField (.ref I) 1 (rawInt ((i:Int)+1))
     ret x
    | none=>setField (.ref I) 2 .none;raiseNew (<- newExc (.type "StopIteration") [])
   else do
    let some places<- seqItems? fst | unsupported "internal:set_iterator"
    match places[i]? with
    | some (.int place _)=>
     let x<- setNextDrawn S place.toNat ep
     setField (.ref I) 1 (rawInt ((i:Int)+1))
     ret x
    | some _=>unsupported "internal:set_iterator"
    | none=>setField (.ref I) 0 (rawInt 0);setField (.ref I) 2 .none;raiseNew (<- newExc (.type "StopIteration") []))
   (fun fin s' =>∃r,fin= .done (.ret r)/\Q (some r) s')
   (fun e s' =>wpAny (model prog w) A (do if<- isInstance e (.type "StopIteration") then pure (none:Option Value) else throw e) Q E s') s):
  wpAny (model prog w) A (pyNext (.ref I)) Q E s:=by
 obtain⟨oi,ho,hc,hd⟩:=id hit;unfold pyNext;refine z6 (m:=_) (wpAny_attempt (wpAny_callSpecial?_slot (name:=Str.ofString "__next__") hit.ty iY (wpAny_call_entry iY hit.ty zwv ?_ (zw9 _))));unfold Builtin.«set_iterator.__next__»;refine z6 (m:=slotArgs _ _ _) (z7 (α:=_) ?_);refine z6 (m:=fieldsOf _) (wpAny_fieldsOf ho hd ?_);dsimp only;refine z6 (m:=setEntries S) (wpAny_setEntries_of hg O.dat O.fit ?_);rw[if_neg (by rw[hn];simp)]
 refine wpAny_mono h (fun fin s' ⟨r,hr,hq⟩=>⟨r,hr,z7 (α:=_) hq⟩) fun e s' he=>he
theorem Hf(h:Q (w.params.followText "set-order") s):wpAny (model prog w) A setsByText Q E s:=by
 unfold setsByText;exact z6 (m:=ask) (wpAny_askSetting (z7 (α:=_) h))
theorem U8(hbt:w.params.followText "set-order" =false)(hg:s.heap.get? S=some o)(O:gR knd kf true o ks es ep t)(hdr:(!t.plain&&decide (es.size>1))=false)
  (h:Q (match es[SetTable.below t.place slot]?,t.place[SetTable.below t.place slot]? with | some (_,x),some j=>some (x,j+1) | _,_=>none) s):wpAny (model prog w) A (setNext S slot given e0) Q E s:=by
 unfold setNext;refine z6 (m:=setState S) (wpAny_setState_of hg O.dat O.fit ?_);dsimp only;refine z6 (m:=setsByText) (Hf ?_);rw[hbt,if_neg Bool.false_ne_true,if_neg (fun z=>by have z' :(!t.plain&&decide (es.size>1))=true:=z;rw[hdr] at z';cases z')]
 refine z6 (m:=_) ?_;show wpAny _ _ (if (!t.led&& !es.isEmpty)=true then _ else pure PUnit.unit) _ _ _;rw[O.tok.led,if_neg (by simp)]
 exact z7 (α:=_) (z7 (α:=_) h)
theorem U9(hbt:w.params.followText "set-order" =true)(hg:s.heap.get? S=some o)(O:gR knd kf led o ks es ep t)
  (h:Q ((pickOrder (w.params.setOrder S ep) es)[given]?.map fun e=>(e.2,slot)) s):wpAny (model prog w) A (setNext S slot given ep) Q E s:=by
 unfold setNext;refine z6 (m:=setState S) (wpAny_setState_of hg O.dat O.fit ?_);dsimp only;refine z6 (m:=setsByText) (Hf ?_);rw[hbt,if_pos rfl,if_neg (by simp)]
 refine z6 (m:=setWalk S) ?_;unfold setWalk;refine z6 (m:=setState S) (wpAny_setState_of hg O.dat O.fit ?_);dsimp only;refine z6 (m:=setsByText) (Hf ?_);rw[hbt,if_pos rfl];exact z6 (m:=ask) (wpAny_askSetting (z7 (α:=_) (z7 (α:=_) h)))
theorem zo3(hg:s.heap.get? S=some o)(O:gR knd kf led o ks es ep t)(hx:es[p]?=some x)(h:Q x.2 s):wpAny (model prog w) A (setNextDrawn S p ep) Q E s:=by
 unfold setNextDrawn;refine z6 (m:=setState S) (wpAny_setState_of hg O.dat O.fit ?_);dsimp only;rw[if_neg (by simp),hx]
 exact z7 (α:=_) h
theorem zkv(hg:s.heap.get? S=some o)(O:gR knd kf led o ks es ep t)(h:Q (!w.params.followText "set-order" &&(!t.plain&&decide (es.size>1))) s):wpAny (model prog w) A (setDrawn S) Q E s:=by
 unfold setDrawn;refine z6 (m:=setState S) (wpAny_setState_of hg O.dat O.fit ?_);dsimp only;refine z6 (m:=setsByText) (Hf ?_);exact z7 (α:=_) h
theorem Va(nx:Nat ->Nat):∀(f k:Nat) (l:List α) (out:Array α),l.length=f ->(pickOrder.go nx f k l out).toList.Perm (out.toList++l)
 | 0,k,l,out,hl=>by
  unfold pickOrder.go;rw[List.length_eq_zero_iff.mp hl];simp
 | f+1,k,l,out,hl=>by
  unfold pickOrder.go;have hi:nx k % l.length<l.length:=Nat.mod_lt _ (by omega)
  rw[List.getElem?_eq_getElem hi];dsimp only;refine(Va nx f (k+1) (l.eraseIdx (nx k % l.length)) _ (by rw[List.length_eraseIdx_of_lt hi];omega)).trans ?_
  rw[Array.toList_push,List.append_assoc];exact List.Perm.append_left _ (U7 hi)
theorem Mv(nx:Nat ->Nat)(xs:Array α):(pickOrder nx xs).toList.Perm xs.toList:=by
 unfold pickOrder;exact Va nx _ 0 _ #[] (by simp)
end
theorem Vb:PySem.Slot "set_iterator" "__iter__" "set_iterator.__iter__" := .of (owner:= "set_iterator") (n:= "__iter__") (by rw[typeLookup_type,builtinLookup_eq_fast];kernel_rfl) (by decide+kernel) (by decide+kernel) (by decide+kernel) (by first | exact .inl (by decide+kernel) | exact .inr (by decide+kernel)) (by rw[isSubtype_type];kernel_rfl)
theorem zw7:entryFor table "set_iterator.__iter__" =some Builtin.«dict_keyiterator.__iter__»:=entryFor_alias (id' := "dict_keyiterator.__iter__") (by kernel_rfl) rfl (by decide+kernel) (by kernel_rfl)
theorem zxm(v:Value):argsOk "set_iterator.__iter__" ⟨[v],[]⟩:=by unfold argsOk;kernel_rfl
theorem nM.wZ(x:nM h I fst i S n ep)(v:Value):nM (h.update I (Obj.mapFields (·.setIfInBounds 0 v))) I v i S n ep:=by
 obtain⟨o,ho,hc,hd⟩:=x;exact⟨_,Heap.get?_update_self _ ho (Obj.isFreed_of_fields (Obj.data_mapFields hd _)),(Obj.cls_mapFields ..).trans hc,by rw[Obj.data_mapFields hd];simp⟩
theorem nM.w6(x:nM h I fst i S n ep):nM (h.update I (Obj.mapFields (·.setIfInBounds 1 (rawInt ((i:Int)+1))))) I fst (i+1) S n ep:=by
 obtain⟨o,ho,hc,hd⟩:=x;exact⟨_,Heap.get?_update_self _ ho (Obj.isFreed_of_fields (Obj.data_mapFields hd _)),(Obj.cls_mapFields ..).trans hc,by rw[Obj.data_mapFields hd];simp [rawInt]⟩
section
variable{prog:Program}{w:World}{κ:Type}[DecidableEq κ]{knd:KeyKind prog w κ}{kf:Value ->κ}
structure Steps (prog:Program) (w:World) (A:Around) (I S:Addr) (n ep:Nat) (o:Obj) (ex:aV) (vals:List Value) (fst:Nat ->Value):Prop where
 item:∀i (s:Shared) (Q:Option Value ->Shared ->Prop) (E:bf),i<n ->nM s.heap I (fst i) i S n ep ->s.heap.get? S=some o ->(∀p∈ex,s.heap.get? p.1=some p.2) ->
  (∀v h',vals[i]?=some v ->nM h' I (fst (i+1)) (i+1) S n ep ->Heap.SameBut I s.heap h' ->Q (some v) {s with heap:=h'}) ->wpAny (model prog w) A (pyNext (.ref I)) Q E s
 done:∀(s:Shared) (Q:Option Value ->Shared ->Prop) (E:bf),nM s.heap I (fst n) n S n ep ->s.heap.get? S=some o ->(∀p∈ex,s.heap.get? p.1=some p.2) ->
  (∀h',Heap.ExtBut I s.heap h' ->Q none {s with heap:=h'}) ->wpAny (model prog w) A (pyNext (.ref I)) Q E s
theorem zpg(T:Steps prog w A I S n ep o ex vals fst)(hS:S≠I)(hX:∀p∈ex,p.1≠I):
  Walks prog w A I (I::S::ex.map (·.1)) [I] n (fun i v=>vals[i]?=some v) (fun i h=>nM h I (fst i) i S n ep/\h.get? S=some o/\∀p∈ex,h.get? p.1=some p.2) where
 sub:=fun b hb=>by simp at hb;simp [hb]
 frame:=fun i h h' st hk=>⟨st.1.at fun o e=>hk I (by simp) o e,hk S (by simp) o st.2.1,fun p hp=>hk p.1 (by simp only [List.mem_cons,List.mem_map];exact .inr (.inr ⟨p,hp,rfl⟩)) p.2 (st.2.2 p hp)⟩
 item:=fun i s Q E hi st hQ=>T.item i s Q E hi st.1 st.2.1 st.2.2 fun v h' hv st' sb=>hQ v h' s.toks hv ⟨st',(sb.2 S hS).trans st.2.1,fun p hp=>(sb.2 p.1 (hX p hp)).trans (st.2.2 p hp)⟩ fun b o hb e=>(sb.2 b fun z=>hb (by simp [z])).trans e
 done:=fun s Q E st hQ=>T.done s Q E st.1 st.2.1 st.2.2 fun h' eb=>hQ h' s.toks fun b o hb e=>eb b o (fun z=>hb (by simp [z])) e
 self:=fun i s Q E st hQ=>by
  refine wpAny_pyIter_slot st.1.ty Vb (wpAny_call_entry Vb st.1.ty zw7 ?_ (zxm _));show wpAny _ _ (ret (.ref I)) _ _ _;exact z7 (α:=_) ⟨_,rfl,"set_iterator",_,st.1.ty,iY.lookup,hQ⟩
variable{A:Around}{I S:Addr}{n ep:Nat}{o:Obj}{es:Array (Int×Value)}{t:SetTable}{ks:List κ}
def gj(t:SetTable)(i:Nat):Nat:=if h:0<i/\i<=t.place.toList.length then t.place.toList[i - 1]'(by omega)+1 else 0
theorem Vc(hr:pY t.place.toList)(hi:i<=t.place.toList.length):SetTable.below t.place (gj t i)=i:=by
 have:=znm hr hi;unfold gj;by_cases h0:0<i
 ·rw[dif_pos ⟨h0,hi⟩];rw[dif_pos h0] at this;exact this
 ·rw[dif_neg (fun z=>h0 z.1)];rw[dif_neg h0] at this;exact this
theorem Vd(h:t.fits n=true):t.place.toList.length=n:=by
 simp only [SetTable.fits,Bool.and_eq_true,beq_iff_eq] at h
 simpa using h.1
theorem zvh(hh:A.handled=none)(hbt:w.params.followText "set-order" =false)(O:gR knd kf true o ks es ep t)(hdr:(!t.plain&&decide (es.size>1))=false):
  Steps prog w A I S es.size ep o [] (es.toList.map (·.2)) fun i=> .int (gj t i) 0 where
 item:=fun i s Q E hi hit hg _ hQ=>by
  have hl:=Vd O.fit;have hb:=Vc O.tok.G7 (i:=i) (by omega)
  have hp:i<t.place.size:=by simpa using (by omega:i<t.place.toList.length)
  refine yR hit hg O rfl ?_;refine z6 (m:=setNext _ _ _ _) (U8 (ep:=ep) hbt hg O hdr ?_);rw[show((gj t i:Nat):Int).toNat=gj t i from Int.toNat_natCast _,hb,Array.getElem?_eq_getElem hi,Array.getElem?_eq_getElem hp];dsimp only;obtain⟨oi,h1,h2,h3⟩:=id hit;refine z6 (m:=setField _ _ _) (wpAny_setField h1 h3 (by simp) ?_)
  have hit2:=hit.wZ (rawInt (t.place[i]+1:Nat));obtain⟨oj,g1,g2,g3⟩:=id hit2;refine z6 (m:=setField _ _ _) (wpAny_setField g1 g3 (by simp) ?_)
  refine z7 (α:=_) ⟨_,rfl,hQ _ _ (by simp [hi]) ?_ ((Heap.SameBut.update s.heap I _).trans (Heap.SameBut.update _ I _))⟩
  have e:(Value.int (gj t (i+1)) 0)=rawInt (t.place[i]+1:Nat):=by
   unfold gj;rw[dif_pos ⟨by omega,by omega⟩]
   simp [rawInt]
  rw[e];exact hit2.w6
 done:=fun s Q E hit hg _ hQ=>by
  have hl:=Vd O.fit;have hb:=Vc O.tok.G7 (i:=es.size) (by omega)
  refine yR hit hg O rfl ?_;refine z6 (m:=setNext _ _ _ _) (U8 (ep:=ep) hbt hg O hdr ?_);rw[show((gj t es.size:Nat):Int).toNat=gj t es.size from Int.toNat_natCast _,hb,Array.getElem?_eq_none (Nat.le_refl _)];dsimp only;obtain⟨oi,h1,h2,h3⟩:=id hit;refine z6 (m:=setField _ _ _) (wpAny_setField h1 h3 (by simp) ?_)
  exact wpAny_mono (Mu (I:=I) hh hQ (Heap.SameBut.update s.heap I _).extBut) (fun _ _ q=>q.elim) fun _ _ q=>q
theorem zub(hh:A.handled=none)(hbt:w.params.followText "set-order" =true)(O:gR knd kf led o ks es ep t):
  Steps prog w A I S es.size ep o [] ((pickOrder (w.params.setOrder S ep) es).toList.map (·.2)) fun _=> .int 0 0 where
 item:=fun i s Q E hi hit hg _ hQ=>by
  have hp:=(Mv (w.params.setOrder S ep) es).length_eq;simp only [Array.length_toList] at hp;refine yR hit hg O rfl ?_;refine z6 (m:=setNext _ _ _ _) (U9 hbt hg O ?_);have hi' :i< (pickOrder (w.params.setOrder S ep) es).size:=by omega
  rw[Array.getElem?_eq_getElem hi'];dsimp only [Option.map_some];obtain⟨oi,h1,h2,h3⟩:=id hit;refine z6 (m:=setField _ _ _) (wpAny_setField h1 h3 (by simp) ?_)
  have hit2:=hit.wZ (rawInt ((0:Nat):Int));obtain⟨oj,g1,g2,g3⟩:=id hit2;refine z6 (m:=setField _ _ _) (wpAny_setField g1 g3 (by simp) ?_)
  exact z7 (α:=_) ⟨_,rfl,hQ _ _ (by simp [hi']) hit2.w6 ((Heap.SameBut.update s.heap I _).trans (Heap.SameBut.update _ I _))⟩
 done:=fun s Q E hit hg _ hQ=>by
  have hp:=(Mv (w.params.setOrder S ep) es).length_eq;simp only [Array.length_toList] at hp;refine yR hit hg O rfl ?_;refine z6 (m:=setNext _ _ _ _) (U9 hbt hg O ?_);rw[Array.getElem?_eq_none (by omega)]
  dsimp only [Option.map_none];obtain⟨oi,h1,h2,h3⟩:=id hit;refine z6 (m:=setField _ _ _) (wpAny_setField h1 h3 (by simp) ?_)
  exact wpAny_mono (Mu (I:=I) hh hQ (Heap.SameBut.update s.heap I _).extBut) (fun _ _ q=>q.elim) fun _ _ q=>q
theorem zu8{led:Bool}(hh:A.handled=none)(O:gR knd kf led o ks es ep t){Tp:Addr}{ot:Obj}{ps:List Nat}(hps:ps.Perm (List.range es.size))(hot:∃m,ot.data= .seq (ps.map fun(p:Nat)=>rawInt p).toArray m):
  Steps prog w A I S es.size ep o [(Tp,ot)] (ps.map fun p=>(es.getD p (0,.none)).2) fun _=> .ref Tp where
 item:=fun i s Q E hi hit hg hx hQ=>by
  obtain⟨m,hm⟩:=hot;have hl:ps.length=es.size:=by simpa using hps.length_eq
  have hi' :i<ps.length:=by omega
  have hlt:ps[i]<es.size:=List.mem_range.mp (hps.mem_iff.mp (zH hi'));refine yR hit hg O rfl ?_;show wpAny _ _ (seqItems? (.ref Tp)>>=_) _ _ _;refine z6 (m:=seqItems? _) (wpAny_seqItems (hx (Tp,ot) (by simp)) hm ?_)
  dsimp only;have e:(ps.map fun(p:Nat)=>rawInt p).toArray[i]?=some (.int (ps[i]:Nat) 0):=by simp [hi',rawInt]
  rw[e];dsimp only;refine z6 (m:=setNextDrawn _ _ _) (zo3 (x:=es[ps[i]]) hg O (by rw[Int.toNat_natCast];exact Array.getElem?_eq_getElem hlt) ?_)
  obtain⟨oi,h1,h2,h3⟩:=id hit;refine z6 (m:=setField _ _ _) (wpAny_setField h1 h3 (by simp) ?_)
  exact z7 (α:=_) ⟨_,rfl,hQ _ _ (by simp [hi',hlt]) hit.w6 (Heap.SameBut.update s.heap I _)⟩
 done:=fun s Q E hit hg hx hQ=>by
  obtain⟨m,hm⟩:=hot;have hl:ps.length=es.size:=by simpa using hps.length_eq
  refine yR hit hg O rfl ?_;show wpAny _ _ (seqItems? (.ref Tp)>>=_) _ _ _;refine z6 (m:=seqItems? _) (wpAny_seqItems (hx (Tp,ot) (by simp)) hm ?_)
  dsimp only;have e:(ps.map fun(p:Nat)=>rawInt p).toArray[es.size]?=none:=by simp [hl]
  rw[e];dsimp only;obtain⟨oi,h1,h2,h3⟩:=id hit;refine z6 (m:=setField _ _ _) (wpAny_setField h1 h3 (by simp) ?_)
  have hit2:=hit.wZ (rawInt 0);obtain⟨oj,g1,g2,g3⟩:=id hit2;refine z6 (m:=setField _ _ _) (wpAny_setField g1 g3 (by simp) ?_)
  exact wpAny_mono (Mu (I:=I) hh hQ ((Heap.SameBut.update s.heap I _).trans (Heap.SameBut.update _ I _)).extBut) (fun _ _ q=>q.elim) fun _ _ q=>q
end
section
variable{prog:Program}{w:World}{κ:Type}[DecidableEq κ]{knd:KeyKind prog w κ}{kf:Value ->κ}{A:Around}{E:bf}{s:Shared}{S:Addr}{ep:Nat}{o:Obj}{es:Array (Int×Value)}{t:SetTable}{ks:List κ}
structure Laid (knd:KeyKind prog w κ) (kf:Value ->κ) (s:Shared) (S:Addr) (o:Obj) (ks:List κ) (I:Addr) (h' :Heap) (n:Nat) (vals:List Value) (St:Nat ->Heap ->Prop) (fp:List Addr):Prop where
 wk:∀A' :Around,A'.handled=none ->Walks prog w A' I fp [I] n (fun i v=>vals[i]?=some v) St
 st:St 0 h'
 len:vals.length=n
 lem:n=ks.length
 key:(vals.map kf).Perm ks
 mem:∀v∈vals,(∃k,knd.is k v=true)/\v.scannable=true
 new:s.heap.objs.size<=I
 inF:I∈fp
 fpl:∀b∈fp,b<h'.objs.size
 fpn:∀b∈fp,b=S\/s.heap.objs.size<=b
 kep:∀b ob,s.heap.get? b=some ob ->h'.get? b=some ob
 siz:s.heap.objs.size<=h'.objs.size
theorem zr4(hg:s.heap.get? S=some o)(O:gR knd kf (d7 w) o ks es ep t)(hb:es.size<=sizeLine)
  (h:∀(I:Addr) (h' :Heap) d n vals St fp,Laid knd kf s S o ks I h' n vals St fp ->Q (.ref I) {s with heap:=h',drawn:=d}):wpAny (model prog w) A (pyIter (.ref S)) Q E s:=by
 have hT:s.TypeIs (.ref S) "set" :=⟨o,hg,O.ex.1⟩;have hSl:S<s.heap.objs.size:=zK hg;have hlk:es.size=ks.length:=by simpa using O.key.length_eq
 have Mw:∀v∈es.toList.map (·.2),(∃k,knd.is k v=true)/\v.scannable=true:=fun v hv=>by
  obtain⟨e,he,rfl⟩:=List.mem_map.mp hv;obtain⟨⟨k,hk,_⟩,hs⟩:=O.el e he;exact⟨⟨k,hk⟩,hs⟩
 have fin:∀(h1:Heap) d (vals:List Value) (ex:aV) (fst:Nat ->Value),s.heap.objs.size<=h1.objs.size ->(∀b ob,s.heap.get? b=some ob ->h1.get? b=some ob) ->(∀p∈ex,h1.get? p.1=some p.2/\s.heap.objs.size<=p.1) ->
   (∀A' :Around,A'.handled=none ->Steps prog w A' h1.objs.size S es.size ep o ex vals fst) ->vals.length=es.size ->(vals.map kf).Perm ks ->(∀v∈vals,(∃k,knd.is k v=true)/\v.scannable=true) ->
   Q (.ref h1.objs.size) {s with heap:=h1.push {cls:= .type "set_iterator",data:= .fields #[fst 0,rawInt 0,.ref S,rawInt es.size,rawInt ep]},drawn:=d}:=by
  intro h1 d vals ex fst hsz hk hx' hs hl hp hm;have hx:∀p∈ex,h1.get? p.1=some p.2:=fun p q=>(hx' p q).1;refine h _ _ d es.size vals _ _ ⟨fun A' hh=>zpg (hs A' hh) (zM (zN hSl hsz)) (fun p q=>zM (zK (hx p q))),⟨⟨_,z9 _ rfl,rfl,rfl⟩,z8 _ (hk S o hg),fun p q=>z8 _ (hx p q)⟩,hl,hlk,hp,hm,hsz,by simp,fun b q=> ?_,fun b q=> ?_,fun b ob e=>z8 _ (hk b ob e),?_⟩
  ·rw[Heap.size_push];simp only [List.mem_cons,List.mem_map] at q;rcases q with rfl | rfl | ⟨p,hp',rfl⟩
   ·exact Nat.lt_succ_self _
   ·exact Nat.lt_succ_of_lt (zN hSl hsz)
   ·exact Nat.lt_succ_of_lt (zK (hx p hp'))
  ·simp only [List.mem_cons,List.mem_map] at q;rcases q with rfl | rfl | ⟨p,hp',rfl⟩
   ·exact .inr hsz
   ·exact .inl rfl
   ·exact .inr (hx' p hp').2
  ·rw[Heap.size_push];exact Nat.le_succ_of_le hsz
 refine wpAny_pyIter_slot hT PySem.F.slot_set_iter (wpAny_call_entry PySem.F.slot_set_iter hT zsq ?_ (PySem.F.args_set_iter_1 _));unfold Builtin.«frozenset.__iter__»;refine z6 (m:=Builtin.Frozenset.slot0 _ _) ?_;unfold Builtin.Frozenset.slot0;refine z6 (m:=slotArgs _ _ _) (z7 (α:=_) ?_);show wpAny _ _ (pure S) _ _ _;refine z7 (α:=_) ?_;refine z6 (m:=Builtin.Frozenset.sizeOf S) ?_;unfold Builtin.Frozenset.sizeOf;refine z6 (m:=setEntries S) (wpAny_setEntries_of hg O.dat O.fit (z7 (α:=_) ?_));refine z6 (m:=setDrawn S) (zkv hg O ?_);dsimp only;cases hbt:w.params.followText "set-order" with
 | true=>
  rw[show(!true&&(!t.plain&&decide (es.size>1)))=false from rfl,if_neg Bool.false_ne_true];refine z6 (m:=pure _) (z7 (α:=_) ?_);refine z6 (m:=setEpoch S) (wpAny_setEpoch_of hg O.dat O.fit ?_);refine z6 (m:=newFields _ _) (wpAny_newObj_type (z7 (α:=_) ⟨_,rfl,"set_iterator",_,⟨_,z9 _ rfl,rfl⟩,iY.lookup,?_⟩));have hp:=Mv (w.params.setOrder S ep) es;refine fin s.heap s.drawn ((pickOrder (w.params.setOrder S ep) es).toList.map (·.2)) [] (fun _=> .int 0 0) (zO _) (fun _ _ e=>e) (fun p q=>by cases q) (fun A' hh=>zub hh hbt O) (by simpa using hp.length_eq) ?_ fun v hv=>Mw v ((hp.map _).mem_iff.mp hv)
  rw[List.map_map];exact(hp.map _).trans O.key
 | false=>
  have Mx:d7 w=true:=by unfold d7;rw[hbt];rfl
  cases hdr:(!t.plain&&decide (es.size>1)) with
  | false=>
   rw[show(!false&&false)=false from rfl,if_neg Bool.false_ne_true];refine z6 (m:=pure _) (z7 (α:=_) ?_);refine z6 (m:=setEpoch S) (wpAny_setEpoch_of hg O.dat O.fit ?_);refine z6 (m:=newFields _ _) (wpAny_newObj_type (z7 (α:=_) ⟨_,rfl,"set_iterator",_,⟨_,z9 _ rfl,rfl⟩,iY.lookup,?_⟩));rw[Mx] at O;refine fin s.heap s.drawn (es.toList.map (·.2)) [] (fun i=> .int (gj t i) 0) (zO _) (fun _ _ e=>e) (fun p q=>by cases q) (fun A' hh=>zvh hh hbt O hdr) (by simp) ?_ Mw
   rw[List.map_map];exact O.key
  | true=>
   rw[show(!false&&true)=true from rfl,if_pos rfl];refine z6 (m:=drawOrder _ _) (zjr es.size (List.range es.size) (by simp) fun ps d hps=> ?_)
   have hpl:ps.length=es.size:=by simpa using hps.length_eq
   refine z6 (m:=newTuple _) (wpAny_newTuple ?_ (by rw[List.length_map,hpl];exact hb))
   have hgt:(s.heap.push {cls:= .type "tuple",data:= .seq (ps.map fun(i:Nat)=>rawInt i).toArray}).get? S=some o:=z8 _ hg;refine z6 (m:=setEpoch S) (wpAny_setEpoch_of hgt O.dat O.fit ?_);refine z6 (m:=newFields _ _) (wpAny_newObj_type (z7 (α:=_) ⟨_,rfl,"set_iterator",_,⟨_,z9 _ rfl,rfl⟩,iY.lookup,?_⟩));have hpm:(ps.map fun p=>(es.getD p (0,.none)).2).Perm (es.toList.map (·.2)):=by
    refine(hps.map _).trans ?_;have:(List.range es.size).map (fun p=>(es.getD p (0,.none)).2)=es.toList.map (·.2):=by
     apply List.ext_getElem
     ·simp
     ·intro i h1 h2;have:i<es.size:=by simpa using h1
      simp [this]
    rw[this]
   refine fin _ d (ps.map fun p=>(es.getD p (0,.none)).2) [(s.heap.objs.size,{cls:= .type "tuple",data:= .seq (ps.map fun(i:Nat)=>rawInt i).toArray})] (fun _=> .ref s.heap.objs.size) (by rw[Heap.size_push];exact Nat.le_succ _) (fun b ob e=>z8 _ e) (fun p q=> ?_) (fun A' hh=>zu8 hh O hps ⟨_,rfl⟩) (by simp [hpl]) ?_ fun v hv=>Mw v (hpm.mem_iff.mp hv)
   ·obtain rfl:p=_:=by simpa using q
    exact⟨z9 _ rfl,zO _⟩
   ·refine(hpm.map kf).trans ?_;rw[List.map_map];exact O.key
abbrev jH:Obj:={cls:= .type "list",data:= .seq ([]:List Value).toArray}
theorem zk1(hh:A.handled=none)(hg:s.heap.get? S=some o)(O:gR knd kf (d7 w) o ks es ep t)(hb:es.size<=sizeLine)
  (h:∀(vals:List Value) (h' :Heap) d tk,(vals.map kf).Perm ks ->(∀v∈vals,(∃k,knd.is k v=true)/\v.scannable=true) ->s.heap.objs.size<h'.objs.size ->(∀b ob,s.heap.get? b=some ob ->h'.get? b=some ob) ->Q vals {s with heap:=h',drawn:=d,toks:=tk}):
  wpAny (model prog w) A (collect (.ref S)) Q E s:=by
 have hSl:S<s.heap.objs.size:=zK hg;unfold collect;refine z6 (m:=runValue _) (wpAny_runValue (codeAny_builtin PySem.F.entry_proto_collect ?_));rw[Around.under_plainId PySem.F.plain_proto_collect _];show wpAny _ _ (newList []>>=fun l=>again (.builtin "list.__iadd__" ⟨[l,.ref S],[]⟩)) _ _ _;refine z6 (m:=newList []) (wpAny_newObj_type ?_);refine z7 (α:=_) ⟨plainId_quiet PySem.F.plain_list_iadd _,codeAny_builtin PySem.F.entry_list_iadd ?_⟩;rw[Around.under_plainId PySem.F.plain_list_iadd _];have hg1:(s.heap.push jH).get? S=some o:=z8 _ hg;have hT1:Shared.TypeIs {s with heap:=s.heap.push jH} (.ref S) "set" :=⟨o,hg1,O.ex.1⟩;show wpAny _ _ (Builtin.List.listExtendWith (.ref s.heap.objs.size) (.ref S) (.ref s.heap.objs.size)) _ _ _;unfold Builtin.List.listExtendWith;refine z6 (m:=typeOf _) (wpAny_typeOf hT1 ?_);have n1:Builtin.List.listSameRef (.ref s.heap.objs.size) (.ref S)=false:=by simp [Builtin.List.listSameRef,Nat.ne_of_gt hSl]
 rw[if_neg (by rw[n1];decide)]
 refine z6 (m:=pyIter _) (zr4 hg1 O hb fun I h1 d n vals St fp L=> ?_);refine z6 (m:=holding _ _) (wpAny_holding (vs:= [_]) ?_);unfold Builtin.List.listLengthHint;have hg2:h1.get? S=some o:=L.kep S o hg1;have hT2:Shared.TypeIs {s with heap:=h1,drawn:=d} (.ref S) "set" :=⟨o,hg2,O.ex.1⟩;refine z6 (m:=specialOf _ _) (wpAny_specialOf hT2 PySem.F.slot_set_len.lookup ?_);dsimp only;rw[show splitId "set.__len__" =some ("set","__len__") by decide+kernel]
 dsimp only;refine z6 (m:=isInstance _ _) (wpAny_isInstance hT2 sub_set_self ?_);rw[if_neg (by decide),if_pos (by decide+kernel)]
 refine z6 (m:=typeOf _) (wpAny_typeOf hT2 ?_);dsimp only;refine z7 (α:=_) ?_;rw[if_pos (by decide+kernel)]
 refine z6 (m:=rule _) (wpAny_rule ?_);have hS1:h1.get? s.heap.objs.size=some jH:=L.kep _ _ (z9 _ rfl);have hNI:s.heap.objs.size≠I:=zM (zN (by rw[Heap.size_push];exact Nat.lt_succ_self _) L.new)
 refine z6 (m:=Builtin.List.listTouch _) ?_;show wpAny _ _ (updateSeq s.heap.objs.size (·.push .none)>>=fun _=>updateSeq s.heap.objs.size (·.pop)) _ _ _;refine z6 (m:=updateSeq _ _) (wpAny_updateSeq hS1 rfl ?_);have hS2:=Heap.get?_update_self (Obj.mapSeq (·.push Value.none)) hS1 rfl;refine wpAny_updateSeq hS2 rfl ?_;have hS3:=Heap.get?_update_self (Obj.mapSeq (·.pop)) hS2 rfl;have oth:∀b ob,b≠s.heap.objs.size ->h1.get? b=some ob ->((h1.update s.heap.objs.size (Obj.mapSeq (·.push Value.none))).update s.heap.objs.size (Obj.mapSeq (·.pop))).get? b=some ob:=
  fun b ob q e=>(Heap.get?_update_other _ _ (Ne.symm q)).trans ((Heap.get?_update_other _ _ (Ne.symm q)).trans e)
 have Ve:s.heap.objs.size∉fp:=fun q=>by
  rcases L.fpn _ q with z | z
  ·exact absurd z (Nat.ne_of_gt hSl)
  ·have z' :(s.heap.push jH).objs.size<=s.heap.objs.size:=z;rw[Heap.size_push] at z';exact absurd z' (Nat.not_succ_le_self _)
 have Vf:n<=sizeLine:=by
  have e1:=L.lem;have e2:es.size=ks.length:=by simpa using O.key.length_eq
  omega
 have W:=L.wk A.in1 (by simp [hh])
 refine z7 (α:=_) ⟨plainId_quiet PySem.F.plain_extend_loop _,codeAny_extend_loopS W.toS Vf _ Ve _ n 0 _ _ _ rfl (Nat.zero_le _) (W.frame 0 h1 _ L.st fun b q ob e=>oth b ob (fun z=>Ve (z ▸ q)) e) hS3 (ItemsOf.nil _) fun s' acc c' hm hS' hacc=> ?_⟩;show wpAny _ _ (load s.heap.objs.size>>=_) _ _ _;refine z6 (m:=load _) (wpAny_load hS' ?_);refine z7 (α:=_) ?_;have ev:acc.toList=vals:=by
  apply List.ext_getElem?;intro i;by_cases q:i<n
  ·have hi:i<acc.size:=by rw[hacc.1];exact q
   have:=hacc.2 i acc[i] (Array.getElem?_eq_getElem hi);rw[Array.getElem?_toList,Array.getElem?_eq_getElem hi,this]
  ·exact(List.getElem?_eq_none (by rw[Array.length_toList,hacc.1];omega)).trans (List.getElem?_eq_none (by rw[L.len];omega)).symm
 rw[ev];obtain⟨h',g',d',tk',os'⟩:=s';obtain rfl:g' =s.gens:=hm.gens;obtain rfl:d' =d:=hm.drawn;obtain rfl:os' =s.os:=hm.os;refine h vals h' d' tk' L.key L.mem (zK hS') fun b ob e=> ?_;have hlt:=zK e;have Mz:b≠s.heap.objs.size:=zM hlt;refine hm.heap b ob ?_ (oth b ob Mz (L.kep b ob (z8 _ e)));simp only [List.mem_cons,List.not_mem_nil,or_false,not_or];exact⟨Mz,fun z=>Mz (by
  subst z;have z2:(s.heap.push jH).objs.size<=b:=L.new;rw[Heap.size_push] at z2;exact absurd hlt (Nat.not_lt_of_ge (Nat.le_of_succ_le z2)))⟩
end
def qb:Value ->Int | .int i _=>i | _=>0
theorem zur:∀k v,(PySem.intKind prog w).is k v=true ->qb v=k:=fun k v h=>by
 obtain⟨t,rfl⟩:=Value.isInt_shape h
 rfl
theorem Vg:∀{vs:List Value},(∀v∈vs,(∃k,(PySem.intKind prog w).is k v=true)/\v.scannable=true) ->IntsAre vs (vs.map qb)
 | [],_=> .nil
 | v::vs,h=>by
  obtain⟨⟨k,hk⟩,_⟩:=h v zY;obtain⟨t,rfl⟩:=Value.isInt_shape hk;exact .cons _ _ (Vg fun u hu=>h u (zX _ hu))
theorem zy5(hob:h.get? a=some (seqObj "list" xs n)):∃e,(sortedHeap h a vs out).get? a=some (seqObj "list" out e):=by
 have hal:a<h.objs.size:=zK hob;have h1:=get?_update_seq hob (fun _=>(#[]:Array Value));have h2:(((h.update a (Obj.mapSeq fun _=> #[])).push (seqObj "tuple" vs.toArray 0)).push (seqObj "list" #[] 0)).get? a=some (seqObj "list" #[] _):=z8 _ (z8 _ h1);exact⟨_,get?_update_seq h2 (fun _=>out)⟩
theorem zwf(hb:h.get? b=some o)(hne:b≠a):(sortedHeap h a vs out).get? b=some o:=by
 have h1:(h.update a (Obj.mapSeq fun _=>(#[]:Array Value))).get? b=some o:=(Heap.get?_update_ne _ _ _ _ hne).trans hb;exact(Heap.get?_update_ne _ _ _ _ hne).trans (z8 _ (z8 _ h1))
section
variable{prog:Program}{w:World}{A:Around}{E:bf}{s:Shared}{S:Addr}{ks:List Int}
theorem znd(hh:A.handled=none)(hS:jt (PySem.intKind prog w) qb (d7 w) s.heap S ks)(h64:ks.length<64)
  (h:∀(l:Addr) (h' :Heap) d tk (out:List Value) (ms:List Int) e,s.heap.objs.size<=l ->IntsAre out ms ->ms.Perm ks ->ms.Pairwise (· <= ·) ->h'.get? l=some (seqObj "list" out.toArray e) ->(∀b ob,s.heap.get? b=some ob ->h'.get? b=some ob) ->Q (.ref l) {s with heap:=h',drawn:=d,toks:=tk}):
  wpAny (model prog w) A (call (.builtin "sorted") [.ref S]) Q E s:=by
 obtain⟨o,es,ep,t,hg,O⟩:=hS;have hlk:es.size=ks.length:=by simpa using O.key.length_eq
 have line:(64:Nat)<=sizeLine:=by decide
 refine Calls.call_function_entry kind_sorted plain_sorted entry_sorted (args_sorted1 _) (show wpAny _ _ (Builtin.«sorted» _) _ _ _ from ?_);unfold Builtin.«sorted»;refine z6 (m:=checkCount "sorted" 1 1 _) (z7 (α:=_) ?_);refine z6 (m:=collect _) (zk1 (by simp [hh]) hg O (by omega) fun vals h1 d tk hk hm hlt hold=> ?_)
 have Vf:vals.length=ks.length:=by simpa using hk.length_eq
 refine z6 (m:=newList _) (wpAny_newList ?_ (by omega))
 have hoL:(h1.push (seqObj "list" vals.toArray 0)).get? h1.objs.size=some (seqObj "list" vals.toArray 0):=z9 _ rfl;have hI:=Vg hm;refine z6 (m:=holding _ _) (wpAny_holding (vs:= [_]) (wpAny_call_entry slot_list_sort ⟨_,hoL,rfl⟩ entry_list_sort (list_sort_tree (ns:=vals.map qb) hoL hI (by omega) fun out ms a1 a2 a3=>⟨_,rfl,?_⟩) (args_list_sort _)))
 refine z7 (α:=_) ⟨_,rfl,?_⟩;obtain⟨e,he⟩:=zy5 (vs:=vals) (out:=out) hoL;have hle:s.heap.objs.size<=h1.objs.size:=Nat.le_of_lt hlt;refine h h1.objs.size _ d tk out.toList ms e hle a1 (a2.trans hk) a3 (by rw[Array.toArray_toList];exact he) fun b ob eb=> ?_
 have e1:=hold b ob eb;exact zwf (z8 _ e1) (zM (zK e1))
end
def rF(P:Program)(w:World)(a:Addr)(ns:List Int):HO:= .ext fun h=>jt (PySem.intKind P w) qb (d7 w) h a (eH (fun i=>ns.getD i 0) ns.length)
theorem zvy(I:Inv X pins σ H s)(d):Inv X pins σ H {s with drawn:=d}:=⟨I.ok,I.os,I.bare,I.base,I.loc,I.cell,I.free,I.freeC,I.pin,I.hok,I.len⟩
def Cr(X:Cx):List V ->Hp ->VK ->Prop:=fun vs H Q=>∃(p:Addr) (ns:List Int),vs= [.ref p]/\dW X.K H p (ns.map .int)/\ns.length+1<scanBound/\∀q,H q=none ->Q (.ref q) (upd H q (rF X.prog X.w q ns))
def MF(X:Cx):List V ->Hp ->VK ->Prop:=fun vs H Q=>∃(q:Addr) (ns:List Int),vs= [.ref q]/\H q=some (rF X.prog X.w q ns)/\ (eH (fun i=>ns.getD i 0) ns.length).length<64/\
 ∀(l:Addr) (ms:List Int),H l=none ->ms.Perm (eH (fun i=>ns.getD i 0) ns.length) ->ms.Pairwise (· <= ·) ->Q (.ref l) (upd H l (.lst (ms.map .int)))
theorem zsj(hc:X.calm=true):bK X (.type "set") (Cr X):=by
 rintro pins s σ H xs us Q I r ⟨p,ns,e0,hq,hb,k⟩;subst e0;obtain⟨u,rfl,rx⟩:=vals1 r;cases rx;obtain⟨its,rv,pl,hz⟩:=I.list hq;have hl:=rv.length;rw[List.length_map] at hl;have hI:=Um rv;have hsz:its.toArray.size=ns.length:=by simpa using hl.symm
 refine zlk (κ:=Int) (knd:=PySem.intKind X.prog X.w) (kf:=qb) zur (val:=fun i=>ns.getD i 0) (I.ok.hd hc) pl.isList (fun i v hv=> ?_) (by rw[hsz];exact hb) fun h' tk hS hold=> ?_
 ·obtain⟨t,rfl⟩:=IntsAre.int_at hI i v (by simpa using hv)
  exact⟨intKind_is _ _ _ _,rfl⟩
 ·rw[hsz] at hS;have I2:Inv X pins σ (upd H s.heap.objs.size (rF X.prog X.w s.heap.objs.size ns)) {s with heap:=h',toks:=tk}:=
   I.laid (t' :=tk) hold (zO _) (show aX X.prog X.w _ _ _ (rF X.prog X.w s.heap.objs.size ns) from ⟨hS,by obtain⟨o,_,_,_,e,_⟩:=hS;exact⟨o,e⟩,fun h1 h2 q st=>q.stay st⟩)
  exact⟨.ref s.heap.objs.size,_,I2,rfl,k _ (I.hok.fresh (zO _))⟩
theorem zsb(hc:X.calm=true):bK X (.builtin "sorted") (MF X):=by
 rintro pins s σ H xs us Q I r ⟨q,ns,e0,hq,h64,k⟩;subst e0;obtain⟨u,rfl,rx⟩:=vals1 r;cases rx;obtain⟨hS,_,_⟩:=I.hok q _ hq;refine znd (I.ok.hd hc) hS h64 fun l h' d tk out ms e hle a1 a2 a3 hl hold=> ?_;have hlen:(ms.map V.int).length<=sizeLine:=by
  rw[List.length_map,a2.length_eq];have:(64:Nat)<=sizeLine:=by decide
  omega
 have I2:Inv X pins σ (upd H l (.lst (ms.map .int))) {s with heap:=h',toks:=tk}:=
  I.laid (t' :=tk) hold hle (show aX X.prog X.w _ _ _ (.lst (ms.map .int)) from ⟨hlen,out,e,Ar a1,hl⟩)
 exact⟨.ref l,_,zvy I2 d,rfl,k l ms (I.hok.fresh hle) a2 a3⟩
def MJ:List D ->(List D ->Prop) ->Prop:=fun ds P=>match ds with
 | [.lst xs]=>∃ns,eY xs=some ns/\ns.length<63/\∀ms:List Int,ms.Pairwise (· < ·) ->(∀i,i∈ms↔i∈ns) ->P (ms.map .int)
 | _=>False
theorem zrs:bootBuiltins "set" =some (.type "set"):=by decide+kernel
section
variable{X:Cx}{F0 H0:Hp}{a e:Expr}{pos p pos2 p2:Pos}{t:aO}
theorem zuu(ns:List Int)(k:Int):k∈eH (fun i=>ns.getD i 0) ns.length↔k∈ns:=by
 rw[U5];constructor
 ·rintro⟨j,hj,rfl⟩;show ns.getD j 0∈ns;rw[List.getD_eq_getElem?_getD,List.getElem?_eq_getElem hj];exact zH hj
 ·intro h;obtain⟨j,hj,e⟩:=List.mem_iff_getElem.mp h;exact⟨j,hj,by show ns.getD j 0=k;rw[List.getD_eq_getElem?_getD,List.getElem?_eq_getElem hj];exact e⟩
theorem zud(hc:X.calm=true)(hg:Gl X "sorted")(hm:X.mg "sorted" =none)(hg2:Gl X "set")(hm2:X.mg "set" =none)(ha:QA X F0 H0 [a] t)(hb:bootBuiltins "sorted" =some (.builtin "sorted"):=by decide+kernel)
  (he:starEach [a] X.env=(false,eval a X.env)::starEach [] X.env:=by rfl) (he2:starEach [.Call (.Name "set" p2) [a] [] pos2] X.env=(false,eval (.Call (.Name "set" p2) [a] [] pos2) X.env)::starEach [] X.env:=by rfl):
  QF X F0 H0 (.Call (.Name "sorted" p) [.Call (.Name "set" p2) [a] [] pos2] [] pos) (qR MJ t):=fun z E cx=>by
 have inner:PE (X.wsh z) (.Call (.Name "set" p2) [a] [] pos2) (Ag (Cr (X.wsh z)) (Ay X.K F0 H0 t E)):=Js (X:=X.wsh z) (zsj hc) hg2 hm2 zrs (ha z E cx) (by decide) (by decide) he rfl
 refine jB (Jq (X:=X.wsh z) (zsb hc) hg hm hb (uf inner yq he2) (by decide) (by decide) he2 rfl) fun σ H Q hq1=> ?_
 obtain⟨F,Γ,P,R,h,k⟩:=hq1;refine⟨F,Γ,_,R,h,fun ds Γ1 F1 H1 vs R1 s1 r1 h1=> ?_⟩;unfold MJ at h1;split at h1
 ·unfold ak ak Rep at r1;obtain⟨v,_,rfl,⟨l,us,rfl,hq,rs⟩,rfl⟩:=r1;obtain⟨ns,hns,hlt,h1⟩:=h1;obtain rfl:=Lh rs hns;refine⟨l,ns,rfl,R1.g.seq hq,by unfold scanBound;omega,fun q hq0=> ?_⟩
  have hml:=Mt (fun i=>ns.getD i 0) ns.length;refine⟨q,ns,rfl,iu,by omega,fun l2 ms hl2 hp hs=> ?_⟩
  have R2:SR X.K F0 H0 F1 (upd H1 q (rF X.prog X.w q ns)) σ Γ1:=R1.grow ⟨.refl _,fun b u e=>by rw[bC (eO (R1.g b u e) hq0)];exact R1.g b u e,fun b u e=>by rw[bC (eO e hq0)];exact e,fun b o e n=>by rw[e] at n;cases n⟩
  obtain⟨R3,q1,q2,q3,ap⟩:=uq R2 hl2 (Gm (K:=X.K) (F:=F1) ms);refine k _ Γ1 F1 _ l2 _ R3 s1 q1 q2 q3 (Gm ms) ap (h1 ms ?_ fun i=>hp.mem_iff.trans (zuu ns i));have nd:ms.Nodup:=hp.nodup_iff.mpr (U6 _ _);have:=List.Pairwise.and hs nd;exact this.imp fun{a b} ⟨q1,q2⟩=>by omega
 ·exact h1.elim
end
def MK(K:W.Frag)(a:Addr)(xs:List V):It:=⟨fun i H=>dW K H a xs/\i<xs.length,fun i H x H' =>H' =H/\xs.reverse[i]?=some x,fun i _=>xs.length<=i⟩
theorem zsm{P:Program}{w:World}{K:W.Frag}{tg:Expr}(a it:Addr)(xs:List V):Turn P w K tg (MK K a xs) [it] it (fun i h=>i<=xs.length/\h.IsRevIter it a ((xs.length:Int) - 1 - (i:Int))) where
 mem:=by simp
 obj:=fun i h st b hb=>by
  obtain rfl:b=it:=by simpa using hb
  obtain⟨_,o,e,c,d⟩:=st;exact⟨o,e,fun v z=>by rw[d] at z;cases z⟩
 keep:=fun i h h' st k=>⟨st.1,st.2.at fun o e=>k it (by simp) o e⟩
 item:=by
  intro X hP hw hK hc i pins s σ H E I hf st hg;subst hP hw hK;obtain⟨hq,hx⟩:=hg;obtain⟨its,rv,p,hz⟩:=I.list hq;have hl:=rv.length;obtain⟨f0,f1,f2,f3,f4,f5⟩:=hf it (by simp)
  have hj:xs.length - 1 - i<xs.length:=by omega
  obtain⟨u,hu,ru⟩:=rv.get (zZ hj);have hit:=st.2;rw[show(xs.length:Int) - 1 - (i:Int)=((xs.length - 1 - i:Nat):Int) by omega] at hit
  refine wpAny_pyNext_rev_item hit p.isList (x:=u) (by simpa using hu) fun h' hit' sb=> ?_
  have I1:Inv X pins σ H {s with heap:=h'}:=I.turned (t' :=s.toks) (fun b o hb e=>(sb.2 b hb).trans e) f0 f1 f3 f4 f5;obtain⟨o,e,c,d⟩:=id hit';refine⟨u,rfl,Eu (s:={s with heap:=h'}) e c d (by decide) ⟨xs[xs.length - 1 - i],H,I1,ru,⟨rfl,?_⟩,⟨hx,?_⟩,fun b hb=>(hf b hb).1⟩⟩
  ·rw[List.getElem?_reverse hx,List.getElem?_eq_getElem hj]
  ·rw[show((xs.length - 1 - i:Nat):Int) - 1=(xs.length:Int) - 1 - ((i+1:Nat):Int) by omega] at hit'
   exact hit'
 done:=by
  intro X hP hw hK hc i pins s σ H E I hf st hg;subst hP hw hK;obtain⟨f0,f1,f2,f3,f4,f5⟩:=hf it (by simp)
  have hle:xs.length<=i:=hg;have hit:=st.2;rw[show(xs.length:Int) - 1 - (i:Int)= -1 by have:=st.1;omega] at hit
  exact wpAny_pyNext_rev_end (I.ok.hd hc) hit fun h' eb=>⟨rfl,I.turned (t' :=s.toks) (fun b o hb e=>eb b o hb e) f0 f1 f3 f4 f5⟩
 self:=fun _ _ _ _ _ st h=>wpAny_pyIter_revIter st.2 h
theorem Vh:bootBuiltins "reversed" =some (.type "reversed"):=by decide+kernel
def Cu(K:W.Frag)(ta:TA):TI:=fun σ H R=>ta σ H fun vs H1=>∃a xs,vs= [.ref a]/\dW K H1 a xs/\ (xs.length<=sizeLine ->R (MK K a xs) H1)
theorem zx6{X:Cx}{a tg:Expr}{ta:TA}{p pos:Pos}(hg:Gl X "reversed")(hm:X.mg "reversed" =none)(ha:PA X [a] ta)(hs:starEach [a] X.env=(false,eval a X.env)::starEach [] X.env:=by rfl):
  PI X tg (.Call (.Name "reversed" p) [a] [] pos) (Cu X.K ta):=by
 intro pins s σ H R I h;refine Call_ (uX I hg hm Vh (PyProof.Rows.callWith_type1 (aY (ha pos pins s σ H _ I h) fun us s1 ⟨vs,H1,I1,r1,q1⟩=> ?_) hs rfl));obtain⟨l,xs,rfl,hq,q⟩:=q1;obtain⟨u,rfl,rx⟩:=vals1 r1;cases rx;obtain⟨its,rv,pl,hz⟩:=I1.list hq;have hl:=rv.length;refine call_reversed_list pl.isList ?_;have hit:(s1.heap.push (revObj l ((its.toArray.size:Int) - 1))).IsRevIter s1.heap.objs.size l ((xs.length:Int) - 1 - ((0:Nat):Int)):=⟨_,z9 _ rfl,rfl,by show Data.fields _=_;rw[List.size_toArray,<- hl];simp [rawInt]⟩
 refine wpAny_pyIter_revIter hit ⟨s1.heap.objs.size,[s1.heap.objs.size],_,_,H1,rfl,I1.kept (t' :=s1.toks) fun b o e=>z8 _ e,zsm l _ xs,⟨Nat.zero_le _,hit⟩,fun b hb=> ?_,q hz⟩;obtain rfl:b=s1.heap.objs.size:=by simpa using hb
 exact I1.fpOk (zO _) (I1.hok.fresh (zO _))
def MN(t:aO):aO:=fun Γ P E=>t Γ (fun ds Γ1=>match ds with | [.lst xs]=>P xs.reverse Γ1 | _=>False) E
theorem zt9{K:W.Frag}{F:Hp}{a:Addr}{vs:List V}{xs:List D}(hq:dW K F a vs)(rs:ak K F xs vs)(hz:vs.length<=sizeLine):wJ K F Bw (MK K a vs) xs.reverse:=by
 have hl:=fY rs;refine⟨by rw[List.length_reverse];omega,fun i H2 F2 s2 s3 _=>⟨fun e=>by show vs.length<=i;rw[e,List.length_reverse];omega,fun d hd=> ?_⟩⟩
 obtain⟨v,hv,rv⟩:=o9 (BR rs) hd;have hi:i<vs.length:=by
  have:=(zW.mp hv).1
  rwa [List.length_reverse] at this
 refine⟨⟨s3.seq (s2.seq hq),hi⟩,fun y H' z=> ?_⟩;obtain⟨rfl,z⟩:=z;rw[hv] at z;cases z;exact⟨F2,Gr.refl s3,rv.up s2⟩
section
variable{X:Cx}{F0 H0:Hp}{a e tg:Expr}{pos p pos2 p2:Pos}{t:aO}
theorem zk6(hc:X.calm=true)(hg:Gl X "reversed")(hm:X.mg "reversed" =none)(ha:QA X F0 H0 [a] t)(hs:starEach [a] X.env=(false,eval a X.env)::starEach [] X.env:=by rfl):
  QI X F0 H0 tg (.Call (.Name "reversed" p) [a] [] pos) (MN t):=fun z E cx=>Gy (zx6 (X:=X.wsh z) hg hm (ha z E cx) hs) fun σ H R hq2=>by obtain⟨F,Γ,P,S,q,k⟩:=hq2;exact⟨F,Γ,_,S,q,fun ds Γ1 F1 H1 vs R1 s1 r1 h1=>by
  unfold MN at*;split at h1
  ·unfold ak ak Rep at r1;obtain⟨v,_,rfl,⟨l,us,rfl,hq,rs⟩,rfl⟩:=r1;exact⟨l,us,rfl,R1.g.seq hq,fun hz=>k _ Γ1 F1 H1 _ R1 s1 (zt9 hq rs hz) h1⟩
  ·exact h1.elim⟩
end
theorem zpp:typeLookup (.type "list_reverseiterator") "__len__" =pure none:=by rw[typeLookup_type,builtinLookup_eq_fast];kernel_rfl
theorem zsd:typeLookup (.type "list_reverseiterator") "__length_hint__" =pure (some (.builtin "list_reverseiterator.__length_hint__")):=by rw[typeLookup_type,builtinLookup_eq_fast];kernel_rfl
section
variable{prog:Program}{w:World}{A:Around}{E:bf}{s:Shared}
abbrev fM:Obj:={cls:= .type "list",data:= .seq #[]}
theorem zkm(hh:A.handled=none)(hit:s.heap.IsRevIter I l ((items.size:Int) - 1))(hl:s.heap.IsList l items)(hz:items.size<=sizeLine)
  (h:∀h' c tk,(∀b o,b≠I ->s.heap.get? b=some o ->h'.get? b=some o) ->h'.get? s.heap.objs.size=some {cls:= .type "list",dict:=none,data:= .seq items.reverse c,slots:= #[]} ->Q (.ref s.heap.objs.size) {s with heap:=h',toks:=tk}):
  wpAny (model prog w) A (call (.type "list") [.ref I]) Q E s:=by
 have MP:I<s.heap.objs.size:=by obtain⟨o,e,_⟩:=hit;exact zK e
 have hll:l<s.heap.objs.size:=by obtain⟨o,e,_⟩:=hl;exact zK e
 have hne:l≠I:=by
  obtain⟨o,e,c,_⟩:=hit;obtain⟨o',e',c',_⟩:=hl;rintro rfl;rw[e] at e';cases e';rw[c] at c';exact absurd (Value.type.inj c') (by decide)
 refine callType_codes (Q₁:=fun obj s₁=>obj= .ref s.heap.objs.size/\s₁={s with heap:=s.heap.push fM}) PySem.F.called_list (PySem.F.typeCall_list_1 _) PySem.F.entry_list_init (code_list_new _ ⟨rfl,rfl⟩) fun obj s₁ h₁=> ?_;obtain⟨rfl,rfl⟩:=h₁;have hS:(s.heap.push fM).get? s.heap.objs.size=some fM:=z9 _ rfl;refine⟨⟨_,hS,rfl⟩,PySem.F.args_list_init_2 _ _,?_⟩;show wpAny _ _ (Builtin.List.listItems (.ref s.heap.objs.size)>>=fun old=>Builtin.List.listUpdate (.ref s.heap.objs.size) (fun _=> #[])>>=fun _=>letGo old.toList.reverse>>=fun _=>Builtin.List.listExtendWith (.ref s.heap.objs.size) (.ref I) .none) _ _ _;refine z6 (m:=Builtin.List.listItems _) (listItems_at hS rfl ?_);refine z6 (m:=Builtin.List.listUpdate _ _) (listUpdate_at hS rfl ?_ (Nat.zero_le _) (Nat.zero_le _));have hS2:=Heap.get?_update_self (Obj.mapSeq (fun _=>(#[]:Array Value))) hS rfl;refine z6 (m:=letGo _) (wpAny_letGo ?_);have oth:∀b o,b≠s.heap.objs.size ->(s.heap.push fM).get? b=some o ->((s.heap.push fM).update s.heap.objs.size (Obj.mapSeq (fun _=>(#[]:Array Value)))).get? b=some o:=
  fun b o q e=>(Heap.get?_update_other _ _ (Ne.symm q)).trans e
 have hit2:((s.heap.push fM).update s.heap.objs.size (Obj.mapSeq (fun _=>(#[]:Array Value)))).IsRevIter I l ((items.size:Int) - 1):=hit.at fun o e=>oth I o (zM MP) (z8 _ e);have hl2:((s.heap.push fM).update s.heap.objs.size (Obj.mapSeq (fun _=>(#[]:Array Value)))).IsList l items:=hl.at fun o e=>oth l o (zM hll) (z8 _ e);generalize (s.heap.push fM).update s.heap.objs.size (Obj.mapSeq (fun _=>(#[]:Array Value)))=h2 at*;have hT2:Shared.TypeIs {s with heap:=h2} (.ref I) "list_reverseiterator" :=hit2.typeIs;unfold Builtin.List.listExtendWith;refine z6 (m:=typeOf _) (wpAny_typeOf hT2 ?_);have n1:Builtin.List.listSameRef (.ref s.heap.objs.size) (.ref I)=false:=by simp [Builtin.List.listSameRef,Nat.ne_of_gt MP]
 rw[if_neg (by rw[n1];decide)]
 refine z6 (m:=pyIter _) (wpAny_pyIter_revIter hit2 ?_);refine z6 (m:=holding _ _) (wpAny_holding (vs:= [_]) ?_);unfold Builtin.List.listLengthHint;refine z6 (m:=specialOf _ _) (wpAny_specialOf hT2 zpp ?_);show wpAny _ _ (specialOf (Value.ref I) (Str.ofString "__length_hint__")>>=_) _ _ _;refine z6 (m:=specialOf _ _) (wpAny_specialOf hT2 zsd ?_);dsimp only;rw[show splitId "list_reverseiterator.__length_hint__" =some ("list_reverseiterator","__length_hint__") by decide+kernel]
 dsimp only;refine z6 (m:=isInstance _ _) (wpAny_isInstance (b:=true) hT2 (by rw[isSubtype_type];kernel_rfl) ?_)
 rw[if_neg (by decide),if_pos (by decide+kernel)]
 rw[if_neg (by decide+kernel)]
 refine z7 (α:=_) ?_;rw[if_neg (by decide+kernel)]
 have hSf:s.heap.objs.size∉ [I,l]:=by
  simp only [List.mem_cons,List.not_mem_nil,or_false,not_or];exact⟨Nat.ne_of_gt MP,Nat.ne_of_gt hll⟩
 have W:=Walks.listRev (prog:=prog) (w:=w) (A:=A.in1.in1) (by simp [hh]) I l hne items
 refine z7 (α:=_) ⟨plainId_quiet PySem.F.plain_extend_loop _,codeAny_extend_loopS W.toS hz _ hSf _ items.size 0 _ _ _ rfl (Nat.zero_le _) ⟨Nat.zero_le _,by rw[show(items.size:Int) - 1 - ((0:Nat):Int)=(items.size:Int) - 1 by omega];exact hit2,hl2⟩ hS2 (ItemsOf.nil _) fun s' acc c' hm hS' hacc=> ?_⟩
 have ev:acc=items.reverse:=by
  apply Array.ext_getElem?;intro i;by_cases q:i<items.size
  ·have hi:i<acc.size:=by rw[hacc.1];exact q
   have:=hacc.2 i acc[i] (Array.getElem?_eq_getElem hi);rw[Array.getElem?_eq_getElem hi,Array.getElem?_reverse q,this]
  ·rw[Array.getElem?_eq_none (by rw[hacc.1];omega),Array.getElem?_eq_none (by simp;omega)]
 subst ev;obtain⟨h',g',d',tk',os'⟩:=s';obtain rfl:g' =s.gens:=hm.gens;obtain rfl:d' =s.drawn:=hm.drawn;obtain rfl:os' =s.os:=hm.os;refine⟨rfl,h h' c' tk' (fun b o hb e=> ?_) hS'⟩;have hlt:=zK e;exact hm.heap b o (by simp only [List.mem_cons,List.not_mem_nil,or_false,not_or];exact⟨zM hlt,hb⟩) (oth b o (zM hlt) (z8 _ e))
end
theorem zvo(hc:X.calm=true)(hg:Gl X "list")(hm:X.mg "list" =none)(hg2:Gl X "reversed")(hm2:X.mg "reversed" =none)(ha:PA X [a] ta)(hb:bootBuiltins "list" =some (.type "list"):=by decide+kernel)
  (he:starEach [a] X.env=(false,eval a X.env)::starEach [] X.env:=by rfl) (he2:starEach [.Call (.Name "reversed" p2) [a] [] pos2] X.env=(false,eval (.Call (.Name "reversed" p2) [a] [] pos2) X.env)::starEach [] X.env:=by rfl):
  PE X (.Call (.Name "list" p) [.Call (.Name "reversed" p2) [a] [] pos2] [] pos) (fun σ H Q=>ta σ H fun vs H1=>∃l xs,vs= [.ref l]/\dW X.K H1 l xs/\∀q,H1 q=none ->Q (.ref q) (upd H1 q (.lst xs.reverse))):=by
 intro pins s σ H Q I h;refine wpAny_Call_Name_kw (uX I hg hm hb ?_ (by decide) (by decide))
 refine PyProof.Rows.callWith_type1 ?_ he2 rfl;rw[he2];show wpAny _ _ (spliced ((false,eval (.Call (.Name "reversed" p2) [a] [] pos2) X.env)::backTo pos (starEach [] X.env))) _ _ _;refine Calls.spliced_cons ?_;refine wpAny_Call_Name_kw (uX I hg2 hm2 Vh ?_ (by decide) (by decide))
 refine PyProof.Rows.callWith_type1 (aY (ha pos2 pins s σ H _ I h) fun us s1 ⟨vs,H1,I1,r1,q1⟩=> ?_) he rfl;obtain⟨l,xs,rfl,hq,q⟩:=q1;obtain⟨u,rfl,rx⟩:=vals1 r1;cases rx;obtain⟨its,rv,pl,hz⟩:=I1.list hq;have hl:=rv.length;refine call_reversed_list pl.isList ?_;refine Calls.spliced_nil ?_;have I2:Inv X pins σ H1 {s1 with heap:=s1.heap.push (revObj l ((its.toArray.size:Int) - 1)),toks:=s1.toks}:=I1.kept fun b o e=>z8 _ e;refine zkm (I:=s1.heap.objs.size) (items:=its.toArray) (I2.ok.hd hc) ⟨_,z9 _ rfl,rfl,rfl⟩ (pl.isList.push _) (by rw[List.size_toArray];omega) fun h' c tk hold hS=> ?_
 have yQ:(s1.heap.push (revObj l ((its.toArray.size:Int) - 1))).objs.size=s1.heap.objs.size+1:=Heap.size_push ..;have kp:∀b o,s1.heap.get? b=some o ->h'.get? b=some o:=fun b o e=>hold b o (zM (zK e)) (z8 _ e);have I3:Inv X pins σ (upd H1 (s1.heap.push (revObj l ((its.toArray.size:Int) - 1))).objs.size (.lst xs.reverse)) {s1 with heap:=h',toks:=tk}:=
  I1.laid (t' :=tk) kp (by rw[yQ];exact Nat.le_succ _) (show aX X.prog X.w _ _ _ (.lst xs.reverse) from ⟨by rw[List.length_reverse];omega,its.reverse,c,rv.reverse,by rw[hS];simp⟩)
 exact⟨.ref _,_,I3,rfl,q _ (I1.hok.fresh (by rw[yQ];exact Nat.le_succ _))⟩
def Hg:List D ->(List D ->Prop) ->Prop:=fun ds P=>match ds with | [.lst xs]=>P xs.reverse | _=>False
theorem Vi(hc:X.calm=true)(hg:Gl X "list")(hm:X.mg "list" =none)(hg2:Gl X "reversed")(hm2:X.mg "reversed" =none)(ha:QA X F0 H0 [a] t)
  (he:starEach [a] X.env=(false,eval a X.env)::starEach [] X.env:=by rfl) (he2:starEach [.Call (.Name "reversed" p2) [a] [] pos2] X.env=(false,eval (.Call (.Name "reversed" p2) [a] [] pos2) X.env)::starEach [] X.env:=by rfl):
  QF X F0 H0 (.Call (.Name "list" p) [.Call (.Name "reversed" p2) [a] [] pos2] [] pos) (qR Hg t):=fun z E cx=>by
 refine jB (zvo (X:=X.wsh z) hc hg hm hg2 hm2 (ha z E cx) (by decide+kernel) he he2) fun σ H Q ou=> ?_
 obtain⟨F,Γ,P,R,h,k⟩:=ou;refine⟨F,Γ,_,R,h,fun ds Γ1 F1 H1 vs R1 s1 r1 h1=> ?_⟩;unfold Hg at h1;split at h1
 ·unfold ak ak Rep at r1;obtain⟨v,_,rfl,⟨l,us,rfl,hq,rs⟩,rfl⟩:=r1;refine⟨l,us,rfl,R1.g.seq hq,fun q hq0=> ?_⟩;obtain⟨R2,q1,q2,q3,ap⟩:=uq R1 hq0 (BR rs);exact k _ Γ1 F1 _ q _ R2 s1 q1 q2 q3 (BR rs) ap h1
 ·exact h1.elim
theorem Vj{K:W.Frag}(self:Value):∀{l:List Value},W.tailIn K um l=true ->refuseLoop self "__setattr__" l=pure ()
 | [],e=>by unfold W.tailIn at e;cases e
 | v::r,e=>by
  unfold W.tailIn at e;rcases Bool.or_eq_true_iff.mp e with q | q
  ·rw[beq_iff_eq.mp q];exact PySem.F.store_ValueError.passes self
  ·split at q
   ·split at q
    ·simp only [Bool.and_eq_true,beq_iff_eq] at q;rw[refuseLoop_ref];exact Vj self q.2
    ·cases q
   ·cases q
structure fG (K:W.Frag) (C:Addr):Prop where
 cls:iR K C=true
 g:qN K C
 sa:W.findIn K (.ref C) "__setattr__" =some (some (.builtin "object.__setattr__"))
 hd:W.hasDictIn K C=true
section
variable{prog:Program}{w:World}{A:Around}{E:bf}{K:W.Frag}{h:Heap}{g:Array GenState}{d:Drawn}{t:Nat}{os:OsState}{x C:Addr}{o:Obj}{name:Str}{v:Value}
theorem zof{Q:Unit ->Shared ->Prop}(X:K.In h)(c:fG K C)(hn:bI K C name)(hx:h.get? x=some o)(hc:o.cls= .ref C)(hnc:W.notCls o=true)(hd:o.dict=none)
  (hq:∀h' tk',h'.Ns1 h.objs.size (fun y=>if y=name then some v else none) ->h'.get? x=some {o with dict:=some h.objs.size} ->(∀b u,b≠x ->h.get? b=some u ->h'.get? b=some u) ->Q () ⟨h',g,d,tk',os⟩):
  wpAny (model prog w) A (setAttr (.ref x) name v) Q E ⟨h,g,d,t,os⟩:=by
 have SF:=PySem.F.store_ValueError;have J:W.InstAt h x o C none:=⟨hx,hc,hnc,by rw[hd];trivial⟩
 refine W.set_plain (s:=⟨h,g,d,t,os⟩) X J c.sa ?_;obtain⟨bm,N,nm,qn,bs,hdct,sn,sub,ab,col,dd,k0,k1,k2,k3,k5,e1,T,ht,cd,hcd,hmro⟩:=u9 X c.cls;have sub:W.Looks (model prog w) h (isInstance (.ref x) (.type "object")) true:=J.type.andThen (W.looks_mroIn X c.g.ob);refine codeAny_call_builtin SF.slot.plain SF.entry (@W.check_slot (model prog w) _ _ ⟨h,g,d,t+1,os⟩ "object.__setattr__" "object" "__setattr__" (.ref x) [.str name t,v] [] _ SF.kind SF.split sub (SF.args (.ref x) (.str name t) v) ?_);have hm:W.Looks (model prog w) h (mroOf (.ref C)) cd.mro:=(W.looks_clsIn X hcd).andThen .now;rw[W.osa_eq,refuse_eq];refine z6 (z6 (W.Looks.here (s:=⟨h,g,d,t+1,os⟩) J.type (z6 (W.Looks.here (s:=⟨h,g,d,t+1,os⟩) hm ?_))));rw[hmro,refuseLoop_ref,Vj _ ht];refine z7 (z6 (W.Looks.here (s:=⟨h,g,d,t+1,os⟩) J.type (z6 (W.Looks.here (s:=⟨h,g,d,t+1,os⟩) (W.looks_findIn X hn) (z6 (z7 ?_))))));dsimp only;obtain⟨cd',hc',hd'⟩:=W.any_some c.hd;obtain⟨oc,od,oda,osl⟩:=o;dsimp only at hc hd hnc;subst hc hd;refine z6 (z7 (z6 (z6 (wpAny_loadPart hx (z6 (W.Looks.here (s:=⟨h,g,d,t+1,os⟩) (W.looks_clsIn X hc') ?_))))));rw[hd'];rw[if_neg (by decide)]
 dsimp only;rw[if_neg (by simp [typeHasDict])]
 have body:wpAny (model prog w) A.in1 (alloc {cls:= .type "dict",data:= .dict #[]}>>=fun d=>(update x fun o=>{o with dict:=some d})>>=fun _=>dictMade (.ref C) x d) (fun a s' =>∃dx,a=some dx/\wpAny (model prog w) A.in1 (Builtin.ObjectAttr.storeInDict dx (.str name t) name v) (fun fin s' =>fin= .done (.ret .none)/\Q () s') (fun _ _=>False) s') (fun _ _=>False) ⟨h,g,d,t+1,os⟩:=by
  have hx₁:(h.push {cls:= .type "dict",data:= .dict #[]}).get? x=some ⟨.ref C,none,oda,osl⟩:=z8 _ hx;have hxs:x≠h.objs.size:=zM (zK hx);refine z6 (wpAny_alloc' (z6 (wpAny_update' hx₁ ?_)));refine z7 ⟨_,rfl,?_⟩;have hgd:((h.push {cls:= .type "dict",data:= .dict #[]}).update x fun o=>{o with dict:=some h.objs.size}).get? h.objs.size=some {cls:= .type "dict",data:= .dict #[]}:=
   (Heap.get?_update_ne _ _ _ _ (Ne.symm hxs)).trans (Heap.get?_push_at rfl rfl)
  have hnd:((h.push {cls:= .type "dict",data:= .dict #[]}).update x fun o=>{o with dict:=some h.objs.size}).Ns h.objs.size (fun _=>none):=
   ⟨_,#[],_,hgd,rfl,fun e he=>absurd he (by simp),fun _=>rfl⟩
  unfold Builtin.ObjectAttr.storeInDict Builtin.ObjectAttr.newKeyGuard;refine z6 (z7 (z6 (wpAny_nsSet1 (Heap.Ns1.of_empty hnd) fun h' hn' hs=> ?_)));obtain⟨oD,esD,epD,hoD,hdD,hcD⟩:=hn'.count (Within.cons name v Within.nil);refine z6 (wpAny_lookBehind hoD (by rw[hdD];exact pastItsLine_dict (zP hcD (by rw[List.length_cons,List.length_nil,sizeLine_eq];omega))) ?_)
  have hx' :h'.get? x=some ⟨.ref C,some h.objs.size,oda,osl⟩:=by
   refine(hs.2 x hxs).trans (Heap.get?_update_self _ hx₁ ?_);have hfr:=(Heap.get?_some_iff.mp hx).2;cases oda<;>first | rfl | exact hfr
  refine z7 (α:=_) ⟨rfl,hq h' _ ?_ hx' fun b ob hbx hb=> ?_⟩
  ·exact hn'
  ·exact(hs.2 b (zM (zK hb))).trans ((Heap.get?_update_ne _ _ _ _ hbx).trans (z8 _ hb))
 have fin:∀a s',(∃dx,a=some dx/\wpAny (model prog w) A.in1 (Builtin.ObjectAttr.storeInDict dx (.str name t) name v) (fun fin s' =>fin= .done (.ret .none)/\Q () s') (fun _ _=>False) s') ->wpAny (model prog w) A.in1 (match a with | some d=>Builtin.ObjectAttr.storeInDict d (Value.str name t) name v | none=>Builtin.ObjectAttr.noDictFor (Value.ref x) (Value.ref C) name false) (fun fin s' =>
     match fin with
     | Fin.done f=>
      match Except.ok f with
      | Except.ok (Flow.ret v)=>Q () s'
      | Except.ok a=>False
      | Except.error e=>E e s'
     | Fin.again c' =>
      c'.quiet=true/\
       codeAny (model prog w) A c'
        (fun r s' =>
         match r with
         | Except.ok (Flow.ret v)=>Q () s'
         | Except.ok a=>False
         | Except.error e=>E e s')
        s') (fun e s' =>E e s') s' :=by
  rintro a s' ⟨dx,rfl,z⟩;exact wpAny_mono z (fun f s2 ⟨e,q⟩=>by subst e;exact q) fun _ _ q=>q.elim
 cases oda with
 | cls c=>cases hnc
 | _=>exact wpAny_mono body fin fun _ _ q=>q.elim
end
section
variable{prog:Program}{w:World}{A:Around}{E:bf}{K:W.Frag}{h:Heap}{g:Array GenState}{d:Drawn}{t:Nat}{os:OsState}{x C dx:Addr}{o:Obj}{name:Str}{v:Value}{mA:Str ->Option Value}
theorem Vk(X:K.In h)(c:fG K C)(hn:bI K C name)(hx:h.get? x=some o)(hc:o.cls= .ref C)(hnc:W.notCls o=true)(hd:o.dict=some dx)(hA:h.Ns1 dx mA)(hv:mA name=some v)(hv' :W.handedIn v=true)
  (hq:Q v ⟨h,g,d,t+1,os⟩):wpAny (model prog w) A (getAttr (.ref x) name expr) Q E ⟨h,g,d,t,os⟩:=by
 obtain⟨od,ho,hl⟩:=QX hA;have J:W.InstAt h x o C (some od):=⟨hx,hc,hnc,by rw[hd];exact ho⟩
 have LF:W.Looks (model prog w) h (Builtin.ObjectAttr.find (.ref x) (.ref C) name) (.value v):=W.looks_find X J (W.findObj_own c.hd hn rfl (by rw[hl,hv]))
 have L0:W.Looks (model prog w) h (typeOf (.ref x)) (.ref C):=J.type;have L1:=W.looks_findIn (M:=model prog w) X c.g.ga;have L2' :=W.looks_findIn (M:=model prog w) X c.g.gn;have b3:=PySem.F.excAttr_ValueError.ga.bind (.ref x);unfold getAttr getAttrBy;refine z6 (wpAny_mkText (wpAny_holding (z6 (L0.at (z6 (L1.at ?_))))));have hx2:(onTheHeap (Value.ref C)&&Value.builtin "BaseException.__getattribute__" ==Value.builtin "object.__getattribute__")=false:=by
  rw[show(Value.builtin "BaseException.__getattribute__" ==Value.builtin "object.__getattribute__")=false by decide+kernel,Bool.and_false]
 simp only [hx2,Bool.false_eq_true,if_false];unfold getAttrByItsOwn hookBefore callGetattribute;simp only [show onTheHeap (Value.ref C)=true from rfl,if_true];refine z6 (L2'.at ?_);simp only [show onTheHeap (Value.builtin "BaseException.__getattribute__")=false from rfl,Bool.and_false,Bool.false_eq_true,if_false];unfold boundAndCalled;refine z6 (wpAny_attempt (wpAny_holding (z6 (wpAny_of_eq b3 ?_))));refine wpAny_call (codeAny_call_builtin PySem.F.excAttr_ValueError.ga.plain F.entry_bexc_ga (zih X c.g hx hc ?_));unfold Builtin.«object.__getattribute__»;refine z6 (z7 (α:=_) ?_);refine z6 (z7 (α:=_) ?_);refine z6 (L0.at (z6 (LF.at ?_)));exact z7 (α:=_) (W.handed_on hv' hq)
theorem zqr{f:Addr}{rest:List Value}{Q:Fin ->Shared ->Prop}(X:K.In h)(hC:iR K C=true)(hi:W.findIn K (.ref C) "__init__" =some (some (.ref f)))(hf:W.typeIn K (.ref f)=some (.type "function"))
  (hq:wpAny (model prog w) A (call (.ref f) (.ref (h.objs.size+1)::rest)) (fun r s' =>r= .none/\Q (.done (.ret (.ref (h.objs.size+1)))) s') E
   ⟨(h.push {cls:= .type "tuple",data:= .seq rest.toArray}).push {cls:= .ref C,data:= .fields #[.ref h.objs.size,.none,.none,.none,.bool false,.none]},g,d,t,os⟩) (hrest:rest.length<=sizeLine):
  wpAny (model prog w) A (Builtin.«type.__call__» ⟨.ref C::rest,[]⟩) Q E ⟨h,g,d,t,os⟩:=by
 obtain⟨bm,N,nm,qn,bs,hdct,sn,sub,ab,col,dd,k0,k1,k2,k3,k5,hC,T,ht,cd,hcd,hmro⟩:=u9 X hC;have Fv:=PySem.F.excBase_ValueError
 repeat (first | with_reducible refine wpAny_loadPart_at hC ?_ | with_reducible refine wpAny_madeBy_exc hC ?_ | wp_step)
 refine codeAny_call_builtin_code (Code.quiet_builtin _ Fv.quiet) (wpAny_check_new_subU Fv Fv.hasB T hC ?_);refine codeAny_exc_new_subU Fv Fv.hasB Fv T hC ?_ hrest;show wpAny _ _ _ _ _ _;have X1:K.In ((h.push {cls:= .type "tuple",data:= .seq rest.toArray}).push {cls:= .ref C,data:= .fields #[.ref h.objs.size,.none,.none,.none,.bool false,.none]}):=X.keeps fun b o e=>z8 _ (z8 _ e);have hC₁:=z8 {cls:= .ref C,data:= .fields #[.ref h.objs.size,.none,.none,.none,.bool false,.none]}
  (z8 {cls:= .type "tuple",data:= .seq rest.toArray} hC)
 have hget:((h.push {cls:= .type "tuple",data:= .seq rest.toArray}).push {cls:= .ref C,data:= .fields #[.ref h.objs.size,.none,.none,.none,.bool false,.none]}).get? (h.objs.size+1)=some
   {cls:= .ref C,data:= .fields #[.ref h.objs.size,.none,.none,.none,.bool false,.none]}:=by heap_get
 have hcC:(Value.ref C::bm).contains (.ref C)=true:=by simp
 have LI:=W.looks_findIn (M:=model prog w) X1 hi;unfold isInstance
 repeat (first | with_reducible refine wpAny_loadPart_at hget ?_ | (with_reducible refine wpAny_isSubtype_exc hC₁ ?_;rw[hcC]) | wp_step)
 show wpAny _ _ (typeLookup (.ref C) _) _ _ _;refine LI.at ?_;refine wpAny_holding (z6 ?_);refine(W.bind_fn X1 (.ref (h.objs.size+1)) hf).at ?_;refine z6 (wpAny_mono hq (fun r s' hr=> ?_) fun _ _ z=>z);obtain⟨rfl,hQ⟩:=hr
 wp_walk
 exact hQ
theorem zsw{f:Addr}{rest:List Value}{Q:bf}(X:K.In h)(hC:iR K C=true)(hi:W.findIn K (.ref C) "__init__" =some (some (.ref f)))(hf:W.typeIn K (.ref f)=some (.type "function"))
  (hq:wpAny (model prog w) (A.under (.builtin "type.__call__" ⟨.ref C::rest,[]⟩)) (call (.ref f) (.ref (h.objs.size+1)::rest)) (fun r s' =>r= .none/\Q (.ref (h.objs.size+1)) s') E
   ⟨(h.push {cls:= .type "tuple",data:= .seq rest.toArray}).push {cls:= .ref C,data:= .fields #[.ref h.objs.size,.none,.none,.none,.bool false,.none]},g,d,t,os⟩) (hrest:rest.length<=sizeLine):
  wpAny (model prog w) A (call (.ref C) rest) Q E ⟨h,g,d,t,os⟩:=by
 obtain⟨bm,N,nm,qn,bs,hdct,sn,sub,ab,col,dd,k0,k1,k2,k3,k5,hC',T,ht,cd,hcd,hmro⟩:=u9 X hC;have f1:=tc_lookup;have f2:=tc_bind (.ref C);have hT:(⟨h,g,d,t,os⟩:Shared).TypeIs (.ref C) "type" :=⟨_,hC',rfl⟩;refine wpAny_call (codeAny_of_tree ?_);show wpAny _ _ (callAny (.ref C) _) _ _ _
 repeat (any_goals (first | assumption | with_reducible refine wpAny_loadPart_at hC' ?_ | wp_step))
 refine⟨rfl,?_⟩;exact codeAny_call_builtin_at (Code.quiet_builtin _ (by decide+kernel)) entry_typeCall (wpAny_check_type_call_sub hC' (zqr X hC hi hf hq hrest))
theorem zqn{t0:Addr}{od:Option Addr}{sl:Array (Option Value)}{rest:List Value}{Q:bf}(X:K.In h)(hC:iR K C=true)(hx:h.get? x=some ⟨.ref C,od,.fields #[.ref t0,.none,.none,.none,.bool false,.none],sl⟩)(hrest:rest.length<=sizeLine)
  (hq:∀h',(∀b u,b≠x ->h.get? b=some u ->h'.get? b=some u) ->h'.get? x=some ⟨.ref C,od,.fields #[.ref h.objs.size,.none,.none,.none,.bool false,.none],sl⟩ ->Q .none ⟨h',g,d,t,os⟩):
  wpAny (model prog w) A (call (.builtin "ValueError.__init__") (.ref x::rest)) Q E ⟨h,g,d,t,os⟩:=by
 obtain⟨bm,N,nm,qn,bs,hdct,sn,sub,ab,col,dd,k0,k1,k2,k3,k5,hC,T,ht,cd,hcd,hmro⟩:=u9 X hC;have Fv:=PySem.F.excBase_ValueError;refine wpAny_call (codeAny_call_builtin Fv.init.plain Fv.initEntry (wpAny_check_init_subU Fv T hC hx rfl ?_));have hx1:(h.push {cls:= .type "tuple",data:= .seq rest.toArray}).get? x=some ⟨.ref C,od,.fields #[.ref t0,.none,.none,.none,.bool false,.none],sl⟩:=z8 _ hx
 wp_walk
 refine hq _ (fun b u hb e=> ?_) ?_
 ·rw[Heap.get?_update_other _ _ (Ne.symm hb)];exact z8 _ e
 ·rw[Heap.get?_update_self _ hx1 rfl]
  rfl
theorem zq2(hC:iR K C=true)(hh:A.handled=none)
  (hm:wpAny M A m (fun v s₁=>∃e oe fv,v= .ref e/\K.In s₁.heap/\s₁.heap.get? e=some oe/\oe.cls= .ref C/\oe.data= .fields #[.ref fv,.none,.none,.none,.bool false,.none]/\E (.ref e) s₁) E s):wpAny M A (raiseStmt env (some m) none) Q E s:=by
 unfold raiseStmt;refine z6 (wpAny_mono hm (fun v s₁ h₁=> ?_) fun _ _ x=>x);obtain⟨e,oe,fv,rfl,X,he,hc,hda,hE⟩:=h₁;obtain⟨bm,N,nm,qn,bs,hdct,sn,sub,ab,col,dd,k0,k1,k2,k3,k5,hC,T,ht,cd,hcd,hmro⟩:=u9 X hC;have hcB:(Value.ref C::bm).contains (.type "BaseException")=true:=by rw[List.contains_cons,T.hasType PySem.F.excBase_ValueError.hasBase,Bool.or_true]
 obtain⟨hp,g,d,tk,os⟩:=s₁;obtain⟨oc,od,oda,osl⟩:=oe;dsimp only at hc hda;subst hc hda
 repeat (first | with_reducible refine wpAny_loadPart_at he ?_ | with_reducible refine wpAny_loadPart_at hC ?_ | (with_reducible refine wpAny_isSubtype_exc hC ?_;rw[hcB]) | wp_step)
 exact wpAny_raiseNew_none hh hE
theorem zo2{env:Env}{s:Shared}{f:Addr}{y:Str}{np cpos pos:Pos}{args:List Expr}{Q:Flow ->Shared ->Prop}(hC:iR K C=true)(hh:A.handled=none)(hplain:(backTo cpos (starEach args env)).any (·.1)=false)
  (hi:W.findIn K (.ref C) "__init__" =some (some (.ref f))) (hf:W.typeIn K (.ref f)=some (.type "function"))
  (h:wpAny (model prog w) A (eval (.Name y np) env) (fun fv s₁=>fv= .ref C/\wpAny (model prog w) A (evalArgs (.ref C) true (backTo cpos (starEach args env)) [])
   (fun a s₂=>a.kw= []/\a.pos.length<=sizeLine/\K.In s₂.heap/\
    wpAny (model prog w) (A.under (.builtin "type.__call__" ⟨.ref C::a.pos,[]⟩)) (call (.ref f) (.ref (s₂.heap.objs.size+1)::a.pos)) (fun r s' =>r= .none/\∃oe fv,K.In s'.heap/\s'.heap.get? (s₂.heap.objs.size+1)=some oe/\oe.cls= .ref C/\oe.data= .fields #[.ref fv,.none,.none,.none,.bool false,.none]/\E (.ref (s₂.heap.objs.size+1)) s') E
     {s₂ with heap:=(s₂.heap.push {cls:= .type "tuple",data:= .seq a.pos.toArray}).push {cls:= .ref C,data:= .fields #[.ref s₂.heap.objs.size,.none,.none,.none,.bool false,.none]}}) E s₁) E s):
  wpAny (model prog w) A (exec (.Raise (some (.Call (.Name y np) args [] cpos)) none pos) env) Q E s:=by
 rw[arm_exec_Raise];refine z6 (wpAny_standAt (zq2 hC hh ?_));refine z6 (wpAny_mono (wpAny_Call_ofName (wpAny_mono h (fun fv s₁ h₁=> ?_) fun _ _ x=>x)) (fun v s₃ h₃=>z6 (wpAny_standAt (z7 h₃))) fun _ _ x=>x);obtain⟨rfl,h₁⟩:=h₁;unfold callWith;refine z6 (wpAny_holding (wpAny_mono h₁ (fun a s₂ h₂=>z6 (wpAny_standAt ?_)) fun _ _ x=>x));obtain⟨apos,akw⟩:=a;obtain⟨hkw,hlen,X,h₂⟩:=h₂;obtain rfl:akw= []:=hkw;obtain⟨hp,g,d,tk,os⟩:=s₂;obtain⟨bm,N,nm,qn,bs,hdct,sn,sub,ab,col,dd,k0,k1,k2,k3,k5,hC',T,ht,cd,hcd,hmro⟩:=u9 X hC;simp only [hplain];refine z6 (wpAny_keeperOf_exc hC' ?_);refine z6 (zsw X hC hi hf (wpAny_mono h₂ (fun r s' hr=>⟨hr.1,z6 (wpAny_holding (wpAny_point (z7 ?_)))⟩) fun _ _ z=>z) hlen);obtain⟨_,oe,fv,X',he,hc,hda,hE⟩:=hr;exact⟨_,oe,fv,rfl,X',he,hc,hda,hE⟩
end
def XO(e C:Addr)(od:Option Addr):HO:= .ext fun h=>∃t,h.get? e=some ⟨.ref C,od,.fields #[.ref t,.none,.none,.none,.bool false,.none],#[]⟩
theorem Hh(hok:gY P w H h)(q:H e=some (XO e C od)):∃t,h.get? e=some ⟨.ref C,od,.fields #[.ref t,.none,.none,.none,.bool false,.none],#[]⟩:=(hok e _ q).1
theorem M4(q:h.get? e=some ⟨.ref C,od,.fields #[.ref t,.none,.none,.none,.bool false,.none],#[]⟩):aX P w H h e (XO e C od):=
 ⟨⟨t,q⟩,⟨_,q⟩,fun _ _ ⟨u,z⟩ st=>⟨u,st _ z⟩⟩
theorem zn5(k:aX P w H h b u):∃o,h.get? b=some o:=by
 cases u with
 | lst xs=>obtain⟨_,_,_,_,e⟩:=k;exact⟨_,e⟩
 | tup xs=>obtain⟨_,_,_,o,e,_⟩:=k;exact⟨_,e⟩
 | dK kvs=>obtain⟨_,_,_,_,o,_,_,e,_⟩:=k;exact⟨_,e⟩
 | dT kvs=>obtain⟨_,_,_,_,o,_,_,e,_⟩:=k;exact⟨_,e⟩
 | set S n=>obtain⟨o,_,_,_,e,_⟩:=k;exact⟨_,e⟩
 | ins C dx fs=>obtain⟨_,_,_,e,_⟩:=k;exact⟨_,e⟩
 | own y=>exact k
 | xd fs=>obtain⟨_,⟨_,_,_,e,_⟩,_⟩:=k;exact⟨_,e⟩
 | rng lo hi=>obtain⟨_,_,_,e⟩:=k;exact⟨_,e⟩
 | frz ob u=>obtain⟨e,_⟩:=k;exact⟨_,e⟩
 | uV ps=>exact⟨_,(show h.get? b=some _ from k)⟩
 | met f y=>exact⟨_,(show h.get? b=some _ from k)⟩
 | ext φ=>obtain⟨_,e,_⟩:=k;exact e
section
variable{X:Cx}{pins:aV}{σ:St}{H:Hp}{s:Shared}{A:Around}{E:bf}{a C dx:Addr}{f:Str}{y v:V}{u:Value}{fs:List (Str×V)}
theorem ztz(I:Inv X pins σ H s)(e:H a=some (XO a C none))(c:fG X.K C)(n:bI X.K C f)(ry:RelV y u)
  (h:∀dx s',H dx=none ->dx≠a ->Inv X pins σ (upd (upd H a (XO a C (some dx))) dx (.xd [(f,y)])) s' ->Q () s'):wpAny (model X.prog X.w) A (setAttr (.ref a) f u) Q E s:=by
 obtain⟨t,hx⟩:=Hh I.hok e;obtain⟨hp,g,d,tk,os⟩:=s;have hlt:a<hp.objs.size:=zK hx;refine zof I.kIn c n hx rfl rfl rfl fun h' tk' ns hx' kp=>h hp.objs.size _ (I.hok.fresh (zO _)) (Nat.ne_of_gt hlt) ?_;have gs:(hp.update a fun o=>{o with dict:=some hp.objs.size}).get? a=some ⟨.ref C,some hp.objs.size,.fields #[.ref t,.none,.none,.none,.bool false,.none],#[]⟩:=Heap.get?_update_self _ hx rfl;have I1:Inv X pins σ (upd H a (XO a C (some hp.objs.size))) {(⟨hp,g,d,tk,os⟩:Shared) with heap:=hp.update a fun o=>{o with dict:=some hp.objs.size},toks:=tk}:=
  I.write (x:=a) (e:=a) (by rw[e];exact True.intro) (.inl rfl) (fun b u hb z=>(Heap.get?_update_other _ _ (Ne.symm hb)).trans z) ⟨_,gs⟩ (M4 gs)
 refine I1.laid (t' :=tk') (fun b u z=> ?_) (Nat.le_of_eq (Heap.size_update ..)) ⟨_,ns,fun g=> ?_⟩
 ·by_cases hb:b=a
  ·subst hb;rw[show(hp.update b fun o=>{o with dict:=some hp.objs.size}).get? b=_ from gs] at z;cases z;exact hx'
  ·exact kp b u hb ((Heap.get?_update_other _ _ (Ne.symm hb)).symm.trans z)
 ·show lW (List.lookup g [(f,y)]) (if g=f then some u else none);by_cases q:g=f
  ·have hb:(g==f)=true:=beq_iff_eq.mpr q;simp only [List.lookup,hb,if_pos q];exact ry
  ·have hb:(g==f)=false:=beq_eq_false_iff_ne.mpr q;simp only [List.lookup,hb,if_neg q];trivial
theorem zuy(I:Inv X pins σ H s)(e:H a=some (XO a C (some dx)))(ed:H dx=some (.xd fs))(c:fG X.K C)(n:bI X.K C f)(l:fs.lookup f=some v)
  (h:∀u s',Inv X pins σ H s' ->RelV v u ->Q u s'):wpAny (model X.prog X.w) A (getAttr (.ref a) f b) Q E s:=by
 obtain⟨t,hx⟩:=Hh I.hok e;obtain⟨mA,ns,r⟩:=I.hok dx _ ed;obtain⟨u,hu,ru⟩:=lW.some_of (v:=v) (o:=mA f) (by rw[<- l];exact r f)
 obtain⟨hp,g,d,tk,os⟩:=s;exact Vk I.kIn c n hx rfl rfl rfl ns hu (QZ ru) (h u _ (I.tok _) ru)
end
def Cw(C:Addr)(f:Str)(ta:TE):TE:=fun σ H Q=>ta σ H fun x H1=>∃a dx fs v,x= .ref a/\H1 a=some (XO a C (some dx))/\H1 dx=some (.xd fs)/\fs.lookup f=some v/\Q v H1
def Cy(C:Addr)(f:Str)(ta tv:TE):TS:=fun D σ H=>tv σ H fun y H1=>ta σ H1 fun x H2=>∃a,x= .ref a/\H2 a=some (XO a C none)/\∀dx,H2 dx=none ->dx≠a ->D.nx σ (upd (upd H2 a (XO a C (some dx))) dx (.xd [(f,y)]))
structure rH (K:W.Frag) (B:Addr):Prop where
 sp:W.specialIn K (.ref B) "__getattribute__" =some (some (.builtin "type.__getattribute__"))
 rd:W.readsIn K B (.type "type")=true
 fi:W.findCls K (.ref B) (.type "type") "__init__" =some (.val (.builtin "ValueError.__init__"))
section
variable{X:Cx}{o e value:Expr}{f:Str}{pos pos' apos p:Pos}{ta tv:TE}{C B:Addr}{x:Str}
theorem zvp(c:fG X.K C)(n:bI X.K C f)(he:PE X e ta)(hb:attributeBase e f X.env (eval e X.env)=eval e X.env):PE X (.Attribute e f pos) (Cw C f ta):=by
 intro pins s σ H Q I h;refine Q0 hb (aY (he pins s σ H _ I h) fun u s1 hq1=> ?_);obtain⟨x,H1,I1,rx,a,dx,fs,v,ex,ea,ed,l,q⟩:=hq1;subst ex;obtain rfl:u=Value.ref a:=rx;exact zuy I1 ea ed c n l fun u' s2 I2 ru=>⟨v,H1,I2,ru,q⟩
theorem zut(c:fG X.K C)(n:bI X.K C f)(ha:PE X o ta)(hv:PE X value tv)(hs:swapsWith value (some (.Attribute o f pos')) pos.line X.env=pure false):PS X (.Assign [.Attribute o f pos'] value pos) (Cy C f ta tv):=by
 intro pins s σ H D I h;refine plainObj_wpAny_Assign_Attribute (aY (hv pins s σ H _ I h) fun u s1 ⟨y,H1,I1,ry,q⟩=>aY (ha pins s1 σ H1 _ I1 q) fun ov s2 ⟨x,H2,I2,rx,a,ex,ea,q2⟩=> ?_) hs;subst ex;obtain rfl:ov=Value.ref a:=rx;exact ztz I2 ea c n ry fun dx s3 h1 h2 I3=>⟨σ,_,I3,q2 dx h1 h2⟩
theorem zsr(c:fG X.K C)(cb:rH X.K B)(hg:Gl X x)(hm:X.mg x=some (.ref B))(ha:PA X [e,e2] t)(hd:(x==("__debug__" :Str))=false:=by decide)
  (hst:starEach [e,e2] X.env=(false,eval e X.env)::starEach [e2] X.env:=by rfl) (hpl:(backTo pos (starEach [e2] X.env)).any (·.1)=false:=by rfl)
  (ht:eval (.Call (.Attribute (.Name x p) "__init__" apos) [e,e2] [] pos) X.env=(do
   let ov<- eval (.Name x p) X.env
   standAt apos.atName
   let (f,first)<- holding [ov] (getMethod ov "__init__" pl)
   callWith pos f first (backTo pos (starEach [e,e2] X.env)) (backToKw pos (keywordEach [] X.env))):=by rfl):
  PE X (.Call (.Attribute (.Name x p) "__init__" apos) [e,e2] [] pos) (fun σ H Q=>t σ H fun vs H1=>∃a od v,vs= [.ref a,v]/\H1 a=some (XO a C od)/\Q .non (upd H1 a (XO a C od))):=by
 intro pins s σ H Q I h;refine W.methodCall_KW (pl:=pl) (yh I hg hm ?_ hd) ht;refine W.method_cls I.kIn cb.sp (W.cls_value I.kIn cb.rd cb.fi rfl ?_);have I0:=I.tok (s.toks+1);refine PyProof.Rows.callWith_builtin1 (aY (ha pos pins _ σ H _ I0 h) fun us s1 ⟨vs,H1,I1,r,a,od,v,ev,ea,q⟩=> ?_) hst hpl;subst ev;obtain⟨u,u2,rfl,ru,ru2⟩:=vals2 r;obtain rfl:u=Value.ref a:=ru;obtain⟨t0,hx⟩:=Hh I1.hok ea;obtain⟨hp,g,d,tk,os⟩:=s1;refine zqn I1.kIn c.cls hx (by rw[List.length_cons,List.length_nil,sizeLine_eq];omega) fun h' kp hx' =>⟨.non,_,I1.write (x:=a) (e:=a) (by rw[ea];exact True.intro) (.inl rfl) (fun b u hb z=>kp b u hb z) ⟨_,hx'⟩ (M4 hx'),rfl,q⟩
end
def zri(bn:Str)(p apos pos:Pos)(args:List Expr)(env:Env)(pl:Sem Bool):Prop:=eval (.Call (.Attribute (.Name bn p) "__init__" apos) args [] pos) env=(do
   let ov<- eval (.Name bn p) env
   standAt apos.atName
   let (f,first)<- holding [ov] (getMethod ov "__init__" pl)
   callWith pos f first (backTo pos (starEach args env)) (backToKw pos (keywordEach [] env)))
def zu3(K:W.Frag)(C:Addr)(f:Str)(sp:bH):Sp:=fun vs H Q E=>∃x rest F ds Pd Ex,vs= .ref x::rest/\H x=some (XO x C none)/\Same F H/\F x=none/\ak K F ds rest/\sp ds Pd Ex/\
 (∀d F' H3 v dx H',Gr F H F' H3 ->Rep K F' d v ->Pd d ->H3 dx=none ->dx≠x ->H' x=some (XO x C (some dx)) ->H' dx=some (.xd [(f,v)]) ->(∀b,b≠x ->b≠dx ->H' b=H3 b) ->Q .non H')/\n8 K F H Ex E
section
variable{P:Program}{w:World}{K:W.Frag}{mg:Str ->Option Value}{base:Heap}
end
def zyi(C:Addr)(sp:bH)(t:aO):aq:=fun _ Γ E=>t Γ (fun ds Γ1=>ds.length<=sizeLine/\sp ds (fun _=>E Γ1 (.ref C)) fun Cx=>E Γ1 Cx) E
theorem zk3:∀(l:List Addr) {h:Heap},a∈l ->(W.hideAll h l).get? a=none:=fun l h m=>W.hideAll_none l m
section
variable{X:Cx}{F0 H0:Hp}{e:Expr}{es:List Expr}{pos np cpos:Pos}{t:aO}{x fl:Str}{C f:Addr}{fd:FuncData}{ps:List Str}{k:Nat}{sp:bH}
structure Xk2 (P:Program) (w:World) (K:W.Frag) (mg:Str ->Option Value) (base:Heap) (x:Str) (C:Addr) (fl:Str) (k:Nat) (ps:List Str) (sp:bH):Prop where
 ex:∃f fd,cJ P w K mg base (cN P w) k f fd ps (zu3 K C fl sp)/\W.findIn K (.ref C) "__init__" =some (some (.ref f))/\W.isFn K (.ref f)=true/\fG K C/\mg x=some (.ref C)/\Binds K fd ps []
end
section
variable{X:Cx}{F0 H0:Hp}{tg iter elt:Expr}{ifs:List Expr}{pos:Pos}{sc:Scope}{own:List Str}{caps:List Nat}{N' :List Str}{ti:aO}{g:iQ}{tc:TT2}{te:aB}
open Classical in
theorem zrg(hN:X.N.Nodup)(hi' :X.N[i]?=some y)(hy:X.env.scope.names.lookup y=some .local)(S:dR X.N sc own caps X.env.scope N')(hc:X.calm=true)(hi:∀F0 H0,Bx X F0 H0 tg iter ti)
  (hg:∀C s₀ H₀ fp F0 H0,QG (blk X sc N' C s₀ H₀ fp) F0 H0 tg g) (ht:∀C s₀ H₀ fp F0 H0,wL (blk X sc N' C s₀ H₀ fp) F0 H0 ifs tc) (he:∀C s₀ H₀ fp F0 H0,QE (blk X sc N' C s₀ H₀ fp) F0 H0 elt te)
  (hn:own.length=n:=by rfl) (hsw:swapsWith (.ListComp elt [⟨tg,iter,ifs,0⟩] sc pos) (some (.Name y py)) spos.line X.env=pure true:=by rfl) (hs:∀x,foldedSetIterable iter X.env x=pure x:=by intro _;rfl):
  QS X F0 H0 (.Assign [.Name y py] (.ListComp elt [⟨tg,iter,ifs,0⟩] sc pos) spos) (bD i (rB (Cj (dZ n caps ti g tc te)))):=by
 subst hn;rintro z E cx pins s σ H Dn I ⟨F,Γ,D2,R,h,k⟩;obtain⟨F1,s1,R1,n1,o1⟩:=T7 R;show wpAny _ _ (exec (.Assign [.Name y py] (.ListComp elt [⟨tg,iter,ifs,0⟩] sc pos) spos) X.env) _ _ _;rw[exec_Assign_Name_used _ _ _ _ hsw];refine z6 (wpAny_standAt (z6 ?_));show wpAny _ _ (do let _<- comprehension (.ListComp elt [⟨tg,iter,ifs,0⟩] sc pos) sc X.env _ (newList []) false (eval iter X.env) (some (assign (.Name y py) X.env))) _ _ s;refine z6 (wpAny_mono (Gx (X:=X.wsh z) (use:=some (assign (.Name y py) X.env)) (Qv:=fun _ s' =>SP (X.wsh z) pins Dn .next s') (g:=gX X.K g) (tc:=tX X.K tc) (te:=eX X.K te) (Q:=fun v H' =>Dn.nx (σ.set i (some v)) H') (dR.cs (X:=X.wsh z) S) (Gw hc (hi F1 H z dX (GK cx))) ?_ ?_ ?_ rfl hs I ?_ ?_) (fun _ s' hq=>z7 (z7 hq)) fun _ _ e=>e)
 ·rintro C s₀ H₀ fp pins s σ H v u Q I r ⟨jF,jG,q⟩;exact hg C s₀ H₀ fp jF jG ⟨fun _ _=>False,[]⟩ dX pW pins s σ H v u Q I r q
 ·rintro C s₀ H₀ fp pins s σ H Q I ⟨jF,jG,q⟩;exact ht C s₀ H₀ fp jF jG ⟨fun _ _=>False,[]⟩ dX pW pins s σ H Q I q
 ·rintro C s₀ H₀ fp pins s σ H Q I ⟨jF,jG,q⟩;exact he C s₀ H₀ fp jF jG ⟨fun _ _=>False,[]⟩ dX pW pins s σ H Q I q
 ·refine⟨F1,gQ Γ,_,R1,h,fun ds Γ1 F2 H2 J Hx R2 s2 hx hJ h1 acc ha=>Le R2 hJ hx ha h1 fun ys F' H' vs R' sF a1 a2 a3 rs ap hp=> ?_⟩;have s3:=(Fl R'.g a1 a2).1;have R3:=R'.frzA a1 a2 a3 ap;have s' :=(s2.trans sF).trans s3;have gr:Gr F H (fun b=>if fD Γ σ b then none else(L2.upd F' acc (.lst vs)) b) H' :=by
   refine⟨fun b u e=> ?_,fun b u e=> ?_,R3.gr.h,fun b o e n=> ?_⟩
   ·show(if fD Γ σ b then none else(L2.upd F' acc (.lst vs)) b)=some u;rw[if_neg (fun hb=>by rw[(o1 b hb).1] at e;cases e)]
    exact s' _ _ (s1 _ _ e)
   ·have e' :(if fD Γ σ b then none else(L2.upd F' acc (.lst vs)) b)=some u:=e;split at e'
    ·cases e'
    ·exact R3.g _ _ e'
   ·have e' :(if fD Γ σ b then none else(L2.upd F' acc (.lst vs)) b)=some o:=e;split at e'
    ·cases e'
    ·rename_i hb;exact R3.gr.n _ _ e' (n1 b n hb)
  have rep:Rep X.K (cW F1 (L2.upd F' acc (.lst vs))) (.lst ys) (.ref acc):=by
   unfold Rep;exact⟨acc,vs,rfl,zog (R'.gr.f.free a2) (.inl (.inl iu)),G5 (zoe R3.gr.f) ys vs hp.1 (rs.up s3)⟩
  refine k.nx _ _ _ _ ((R.grow gr).set i (rep.up fun b u e=> ?_)) gr.f hp.2;have hb:¬fD Γ σ b:=fun hb=>by
   obtain⟨_,w,ev,ld⟩:=o1 b hb;exact RV e w ld ev
  show(if fD Γ σ b then none else(L2.upd F' acc (.lst vs)) b)=some u;rw[if_neg hb];exact RT _ _ e
 ·rintro acc C H' s5 I5 q5 ⟨m,hn⟩ c1 c2 c3 c4 c5 c6;show wpAny _ _ (assign (.Name y py) X.env (.ref acc)) _ _ _;refine wpAny_assign_Name (HY (X:=X.wsh z) I5 hN hi' (.inl hy) (v:= .ref acc) rfl (fun s6 I6 ⟨a,hsb,ha⟩=> ?_) (.inr hy));have ha' :a=X.env.locals\/X.env.cells.lookup y=some a:=ha;have hac:C≠a:=by
   rcases ha' with rfl | ha'
   ·exact c2
   ·exact fun z=>c4 y a ha' z.symm
  refine⟨m,hn.sameBut hsb hac,fun h' hs' =>⟨_,H',I6.turned (t' :=s6.toks) (it:=C) (fun b o hb e=>(hs'.2 b hb).trans e) c1 c2 (.inr c3) c4 c5,q5⟩⟩
end
section
variable{K:W.Frag}{F H:Hp}
theorem M5:∀{ds:List D} {vs:List V},ak K F ds vs ->bB K F H (ds.map .leaf) vs []
 | [],_,h=>by unfold ak at h;subst h;rw[List.map_nil];unfold bB;exact⟨rfl,rfl⟩
 | d::ds,_,h=>by
  unfold ak at h;obtain⟨v,us,rfl,h1,h2⟩:=h;rw[List.map_cons];unfold bB;exact⟨v,us,[],[],rfl,rfl,by unfold TR;exact⟨rfl,h1⟩,M5 h2⟩
theorem M6:∀{ts us:List T} {vs ws:List V} {as bs:List Addr},bB K F H ts vs as ->bB K F H us ws bs ->bB K F H (ts++us) (vs++ws) (as++bs)
 | [],us,vs,ws,as,bs,h1,h2=>by
  unfold bB at h1;obtain⟨rfl,rfl⟩:=h1;exact h2
 | t::ts,us,vs,ws,as,bs,h1,h2=>by
  unfold bB at h1;obtain⟨v,vs',a1,a2,rfl,rfl,q1,q2⟩:=h1;rw[List.cons_append];unfold bB;exact⟨v,vs' ++ws,a1,a2++bs,rfl,by rw[List.append_assoc],q1,M6 q2 h2⟩
theorem M7(h:TR K F H t v as):bB K F H [t] [v] as:=by
 unfold bB;refine⟨v,[],as,[],rfl,by simp,h,?_⟩
 unfold bB;exact⟨rfl,rfl⟩
theorem M8:∀{ts:List T} {vs:List V} {as:List Addr},bB K F H ts vs as ->ts.length=vs.length
 | [],_,_,h=>by unfold bB at h;rw[h.1];rfl
 | t::ts,_,_,h=>by
  unfold bB at h;obtain⟨v,vs',a1,a2,rfl,_,_,q2⟩:=h;rw[List.length_cons,List.length_cons,M8 q2]
theorem Vl:∀{ts:List T} {vs:List V} {as:List Addr} {j:Nat} {t:T},bB K F H ts vs as ->ts[j]?=some t ->∃v b1 bs b2,vs[j]?=some v/\as=b1++ (bs++b2)/\TR K F H t v bs/\
  ∀{F' H' :Hp} {t' :T} {cs:List Addr},Same F F' ->(∀a∈b1++b2,∀u,H a=some u ->H' a=some u) ->TR K F' H' t' v cs ->bB K F' H' (ts.set j t') vs (b1++ (cs++b2))
 | [],_,_,j,t,_,e=>by simp at e
 | t0::ts,_,_,0,t,h,e=>by
  cases e;unfold bB at h;obtain⟨v,vs',a1,a2,rfl,rfl,q1,q2⟩:=h;refine⟨v,[],a1,a2,rfl,rfl,q1,fun{F' H' t' cs} f k r=> ?_⟩;rw[List.set_cons_zero];unfold bB;exact⟨v,vs',cs,a2,rfl,rfl,r,bB.move f ts vs' a2 (fun a ha=>k a ha) q2⟩
 | t0::ts,_,_,j+1,t,h,e=>by
  unfold bB at h;obtain⟨v,vs',a1,a2,rfl,rfl,q1,q2⟩:=h;obtain⟨w,b1,bs,b2,g1,rfl,g3,g4⟩:=Vl q2 (by simpa using e)
  refine⟨w,a1++b1,bs,b2,by simpa using g1,by simp,g3,fun{F' H' t' cs} f k r=> ?_⟩
  rw[List.set_cons_succ];unfold bB;exact⟨v,vs',a1,b1++ (cs++b2),rfl,by simp,TR.move f t0 v a1 (fun a ha=>k a (by simp [ha])) q1,g4 f (fun a ha=>k a (by rcases zU.mp ha with z | z<;>simp [z])) r⟩
end
mutual
def Cz:T ->Prop
 | .leaf d=>iV d
 | .lst ts=>mJ ts
 | .fB _ ts=>mJ ts
 | .fU _ ts=>mJ ts
 | .ob _ _ ts=>mJ ts
 | .kt _=>True
def mJ:List T ->Prop
 | []=>True
 | t::ts=>Cz t/\mJ ts
end
section
variable{K:W.Frag}{F F' H:Hp}
end
abbrev gq:=G2 ->(T ->G2 ->Prop) ->XW ->Prop
section
variable(K:W.Frag)(F0 H0:Hp)
def upN(t:gq)(E:XW):TE:=fun σ H Q=>∃F Γ P,SR K F0 H0 F H σ Γ/\t Γ P E/\∀tr Γ' F' H' v as,SR K F0 H0 F' H' σ Γ' ->Same F F' ->as.Nodup ->(∀a∈as,F' a=none/\H0 a=none/\Apart σ Γ' a) ->TR K F' H' tr v as ->P tr Γ' ->Q v H'
end
def QN(X:Cx)(F0 H0:Hp)(e:Expr)(t:gq):Prop:=∀z E,Ctx (X.wsh z) F0 H0 E ->PE (X.wsh z) e (upN X.K F0 H0 t E)
def Vm(t:aO):gq:=fun Γ P E=>t Γ (fun ds Γ1=>P (.lst (ds.map .leaf)) Γ1) E
section
variable{X:Cx}{F0 H0:Hp}{e:Expr}{es:List Expr}{pos p:Pos}{te:aB}{tf:aO}{tn:gq}
theorem zyo(h:QF X F0 H0 e tf):QN X F0 H0 e (Vm tf):=fun z E cx=>
 jB (h z E cx) fun σ H Q hq1=>by obtain⟨F,Γ,P,R,h,k⟩:=hq1;exact⟨F,Γ,_,R,h,fun ds Γ1 F1 H1 a vs R1 s1 e1 e2 e3 r1 ap h1=>by
  refine k _ _ _ _ _ [a] R1 s1 (by simp) (fun b hb=>by rw[List.mem_singleton.mp hb];exact⟨e2,e3,ap⟩) ?_ h1
  unfold TR;exact⟨a,vs,[],rfl,rfl,e1,M5 r1⟩⟩
def nD0:gq:=fun Γ P _=>P (.fB [] []) Γ
def Vn(t:gq):gq:=fun Γ P _=>t (gQ Γ) (fun tr _=>Cz tr/\P tr Γ) dX
open Classical in
def vB(i:Nat)(t:gq):aq:=fun D Γ E=>t Γ (fun tr Γ1=>∀as,D.nx (Γ1.set i (.tr as tr))) E
theorem zu4(hN:X.N.Nodup)(hi:X.N[i]?=some x)(hx:Loc X.env.scope x)(he:QN X F0 H0 e tn)(hs:swapsWith e (some (.Name x pos')) pos.line X.env=pure false:=by rfl)
  (hf:X.fn x=true\/X.env.scope.names.lookup x=some .local:=by first | exact .inl rfl | exact .inr rfl):QS X F0 H0 (.Assign [.Name x pos'] e pos) (vB i tn):=fun z E cx=>
 j9 (yj (X:=X.wsh z) (i:=i) hN hi hx (he z E cx) hs hf) fun D σ H pN=>by obtain⟨F,Γ,D2,R,h,k⟩:=pN;exact⟨F,Γ,_,R,h,fun t Γ1 F1 H1 v as R1 s1 nd hn r1 h1=>
  k.nx _ _ _ _ (R1.put i (s:= .tr as t) ⟨v,rfl,nd,fun b hb=>⟨(hn b hb).1,(hn b hb).2.1⟩,r1⟩ fun a ha=>(hn a ha).2.2) s1 (h1 as)⟩
def vC(t:gq):aq:=fun D Γ E=>t Γ (fun tr _=>D.rT (.one tr)) E
theorem zue(he:QN X F0 H0 e tn):QS X F0 H0 (.Return (some e) pos) (vC tn):=fun z E cx=>
 j9 (Ip (he z E cx)) fun D σ H ou=>by obtain⟨F,Γ,D2,R,h,k⟩:=ou;exact⟨F,Γ,_,R,h,fun t Γ1 F1 H1 v as R1 s1 nd hn r1 h1=>k.rT (.one t) _ _ _ _ R1.gr nd (fun a ha=>⟨(hn a ha).1,(hn a ha).2.1⟩) r1 h1⟩
def nV(i:Nat):gq:=fun Γ P _=>match Γ[i]? with
 | some (.tr _ t)=>P t (Γ.set i .no)
 | _=>False
theorem zwx(hN:X.N[i]?=some x)(hv:nP X.env.scope x)(hd:(x==("__debug__" :Str))=false:=by decide)(hcd:(x==("__classdict__" :Str))=false:=by decide):QN X F0 H0 (.Name x pos) (nV i):=fun z E cx=>
 jB (tG (X:=X.wsh z) (i:=i) hN hv hd hcd) fun σ H Q uo=>by
  obtain⟨F,Γ,P,R,h,k⟩:=uo;unfold nV at h;split at h
  ·rename_i as t e;obtain⟨o,e0,v,rfl,nd,hn,r⟩:=R.sl i _ e;exact⟨v,e0,k t _ F H v as (R.dropAt e0) (.refl _) nd (fun a ha=>⟨(hn a ha).1,(hn a ha).2,R.less e e0 (show dN (Slot.tr as t) (some v) a from ha)⟩) r h⟩
  ·exact h.elim
end
section
variable{prog:Program}{w:World}{κ:Type}[DecidableEq κ]{knd:KeyKind prog w κ}{A:Around}{E:bf}{s:Shared}{d:Addr}{ep:Nat}{kvs:List (κ×Value)}
end
section
variable{prog:Program}{w:World}{A:Around}{E:bf}{s:Shared}{d:Addr}{ep:Nat}{kvs:List (Key×Value)}
end
def Vo(X:Cx):List V ->Hp ->VK ->Prop:=fun vs H Q=>∃(q:Addr) (kvs:List (Key×V)) (ns:List Int),vs= [.ref q]/\H q=some (.dK kvs)/\kvs.map (·.1)=ns.map .inl/\ns.length<64/\
 ∀(l:Addr) (ms:List Int),H l=none ->ms.Perm ns ->ms.Pairwise (· <= ·) ->Q (.ref l) (upd H l (.lst (ms.map .int)))
def Vp(i:Nat):aO:=fun Γ P _=>match Γ[i]? with
 | some (.tr _ (.fB ks _))=>∃ns:List Int,ks=ns.map .inl/\ns.length<64/\∀ms:List Int,ms.Perm ns ->ms.Pairwise (· <= ·) ->P (ms.map .int) Γ
 | _=>False
section
variable{X:Cx}{F0 H0:Hp}{pos p px:Pos}{x:Str}{i:Nat}
end
section
variable{K:W.Frag}{F0 H0 F H F' H' :Hp}{σ:St}{Γ:List Slot}
theorem Vq(e1:σ[i]?=some o)(h:Apart σ Γ a):Apart σ (Γ.set i .no) a:=fun j q=>by
 have q' :eU (Γ.set i .no) (σ.set i o) j a:=by rw[qz e1];exact q
 rcases u6 q' with ⟨_,z⟩ | ⟨_,z⟩
 ·exact z
 ·exact h j z
theorem SR.wrT(R:SR K F0 H0 F H σ Γ)(e:Γ[i]?=some s)(e1:σ[i]?=some o)(h:dN s o a)(r:fL K F (L2.upd H a u) H0 t o)(ht:∀b,dN t o b ->dN s o b\/Apart σ Γ b):
  SR K F0 H0 F (L2.upd H a u) σ (Γ.set i t):=by
 have R1:=R.wrO (t:= .no) (u:=u) e e1 h trivial fun _ z=>z.elim;have R2:=R1.put i r fun b hb=>by
  rcases ht b hb with z | z
  ·rw[show(Γ.set i Slot.no)=Γ.set i .no from rfl];exact R.less e e1 z
  ·exact Vq e1 z
 rw[qz e1,List.set_set] at R2;exact R2
end
abbrev nO:=List D ->(T ->Prop) ->(XV ->Prop) ->Prop
def pC(K:W.Frag)(sp:nO):Sp:=fun vs H Q E=>∃F ds P Ex,Same F H/\ak K F ds vs/\sp ds P Ex/\ (∀t v as F' H',Gr F H F' H' ->as.Nodup ->(∀a∈as,F' a=none/\H a=none) ->TR K F' H' t v as ->P t ->Q v H')/\n8 K F H Ex E
def aaB(sp:nO):bH:=fun ds P E=>sp ds (fun t=>P (toD t)) E
open Classical in
structure xg (P:Program) (w:World) (K:W.Frag) (mg:Str ->Option Value) (base:Heap) (x:Str) (k:Nat) (ps:List Str) (sp:nO):Prop where
 ex:∃f fd,cJ P w K mg base (cN P w) k f fd ps (pC K sp)/\mg x=some (.ref f)/\W.keepIn K (.ref f)=true/\Binds K fd ps []
section
variable{P:Program}{w:World}{K:W.Frag}{mg:Str ->Option Value}{base:Heap}
theorem M9{x qual:Str}{st:Stmt}{f:Addr}{fd:FuncData}{N ps:List Str}{k:Nat}{sp:nO}(Fn:fK K x qual st f fd)(S:aA N ps (bF st))(len:∀ds Q E,sp ds Q E ->ds.length=ps.length)
  (hbody:∀(cdv:Value) (A:Around) (outer:List Env) (s:Shared) (H:Hp) (E:XK),bT k (A.deeper (envOfC qual (bF st) s.heap.objs.size f cdv)) ->∀F0:Hp,
   ∃t,lY (dF (cN P w) P w K mg base N qual (bF st) f cdv A outer s H E) F0 H (pJ st) t/\∀ds Q Ex,sp ds Q Ex ->t {nx:=fun _=>False,rt:=fun _=>False,rT:=wA Q} (cO N ds) fun _=>Ex):
  cJ P w K mg base (cN P w) (k+1) f fd ps (pC K sp):=by
 obtain⟨oc,od,kV,doc,pm,an,cdv,ct,osl,rfl,lk,hcd⟩:=Fn.ex;refine Fd lk hcd S (fun vs H Q E ⟨F,ds,P',Ex,_,rs,hs,_⟩=>by rw[<- fY rs];exact len _ _ _ hs) fun A outer s H vs Q E hr ⟨F0,ds,Pd,Ex,sF,rs,hsp,hQ,hE⟩=> ?_
 obtain⟨t,ht,hq⟩:=hbody cdv A outer s H E hr F0;have cx:Ctx ((dF (cN P w) P w K mg base N qual (bF st) f cdv A outer s H E).wsh ⟨(dF (cN P w) P w K mg base N qual (bF st) f cdv A outer s H E).xe,[]⟩) F0 H (fun _=>Ex):=by
  refine⟨fun pins σ Γ F H1 s1 e s' I R hx=> ?_,PassesOwn.leaving⟩;refine aY (Fp (E:=fun C dx H' =>E C dx H') I rfl rfl rfl (hx.imp fun C dx H' z=> ?_)) fun _ s'' z=>z;obtain⟨Γ',F',x,R',_,xr,_,z1⟩:=z;exact hE x C dx F' H' z1 R'.gr (xr.back R.gr.h)
 exact⟨_,ht _ _ cx,F0,cO N ds,{nx:=fun _=>False,rt:=fun _=>False,rT:=wA Pd},FT sF rs,hq ds Pd Ex hsp,⟨fun _ _ _ _ _ _ q=>q.elim,fun _ _ _ _ _ _ q=>q,fun _ _ _ _ _ _ q=>q,fun _ _ _ _ _ _ q=>q.elim,fun _ _ _ _ _ _ q=>q.elim,fun t v as F' H' gr nd hn r q=>by(cases t with | one t=>exact hQ t v as F' H' gr nd hn r q | tp c t=>exact q.elim),fun _ _ _ _ _ _ _ _ q=>q.elim⟩⟩
end
def rJ(sp:nO)(t:aO):gq:=fun Γ P E=>t Γ (fun ds Γ1=>sp ds (fun tr=>P tr Γ1) fun C=>E Γ1 C) E
section
variable{X:Cx}{F0 H0:Hp}{e:Expr}{es:List Expr}{pos p:Pos}{x:Str}{ps:List Str}{k:Nat}{sp:nO}{t:aO}
theorem zrt(G:xg X.prog X.w X.K X.mg X.base x k ps sp)(hr:bT k X.A)(hg:Gl X x)(ha:QA X F0 H0 (e::es) t)(hdb:(x==("__debug__" :Str))=false:=by decide)(he:starEach (e::es) X.env=(false,eval e X.env)::starEach es X.env:=by rfl)(hpl:(backTo pos (starEach es X.env)).any (·.1)=false:=by rfl):
  QN X F0 H0 (.Call (.Name x p) (e::es) [] pos) (rJ sp t):=by
 obtain⟨f,fd,Fn,hm,hk,hb⟩:=G.ex;rintro z E cx pins s σ H Q I ⟨F,Γ,P,R,h,kk⟩;refine wpAny_Call_Name_kw (yh (X:=X.wsh z) I hg hm ?_ hdb);refine W.callWith_K (h₀:=X.base) I.ok.mod.zm hk (aY (ha z E cx pos pins s σ H (fun vs H1=>∃F1 Γ1 ds,SR X.K F0 H0 F1 H1 σ Γ1/\Same F F1/\ak X.K F1 ds vs/\sp ds (fun d=>P d Γ1) fun C=>E Γ1 C) I ⟨F,Γ,_,R,h,fun ds Γ1 F1 H1 vs R1 s1 r1 h1=>⟨F1,Γ1,ds,R1,s1,r1,h1⟩⟩) fun us s1 ⟨vs,H1,I1,r,F1,Γ1,ds,R1,sF,rs,q⟩=>⟨I1.kIn,?_⟩) he hpl;have hs:pC X.K sp vs H1 Q (fun C dx H' =>∃x F',E Γ1 x/\Gr F1 H1 F' H' /\qG X.K F' H1 H' C dx x):=⟨F1,ds,_,_,R1.g,rs,q,fun t v as F' H' gr nd hn rt hp=>kk t Γ1 F' H' v as (R1.grow gr) (sF.trans gr.f) nd (fun a ha=>⟨(hn a ha).1,R1.gr.h.free (hn a ha).2,R1.apart (hn a ha).2⟩) rt hp,fun x C dx F' H' hE gr xr=>⟨x,F',hE,gr,xr⟩⟩;have hl:(us++ []).length=ps.length:=by rw[List.append_nil,<- r.length];exact Fn.len _ _ _ _ hs
 have hbs:=hb s1 us I1.kIn hl;rw[List.append_nil] at hbs;refine wpAny_call (codeAny_mono (Fn.run X.A X.stack s1 H1 ⟨us,[]⟩ us vs Q _ hr I1.env0 hbs r hs) fun r s' hq=> ?_);cases r with
 | error e=>exact cx.px pins σ Γ1 F1 H1 s1 e s' I1 R1 hq
 | ok fl=>
  cases fl with
  | ret u=>exact I1.after hq
  | next=>exact False.elim hq
  | brk=>exact False.elim hq
  | cont=>exact False.elim hq
end
def Nb(i:Nat)(t:TE):TS:=fun D σ H=>∃a vs,σ[i]?=some (some (.ref a))/\H a=some (.lst vs)/\t σ H fun v H1=>∃l us y,V.ref a= .ref l/\ [v]= [y]/\H1 l=some (.lst us)/\us.length<sizeLine/\D.nx σ (upd H1 l (.lst (us++ [y])))
section
variable{X:Cx}{F0 H0:Hp}{e:Expr}{pos npos apos cpos:Pos}{x:Str}{i:Nat}{t:TE}{te:aB}{tn:gq}
theorem zpl(he:PE X e t)(hN:X.N[i]?=some x)(hv:nP X.env.scope x)
  (hd:(x==("__debug__" :Str))=false:=by decide) (hcd:(x==("__classdict__" :Str))=false:=by decide)
  (hbase:attributeBase (.Name x npos) "append" X.env (eval (.Name x npos) X.env)=eval (.Name x npos) X.env:=by rfl)
  (hfew:((backTo cpos (starEach [e] X.env)).all (fun x=> !x.1)&&(backToKw cpos (keywordEach [] X.env)).all (fun x=>x.1.isSome)
   &&decide ([e].length+ ([]:List Keyword).length+ (if ([]:List Keyword).isEmpty then 0 else 1)<30))=true:=by rfl)
  (hline:(apos.endLine==cpos.line)=true:=by rfl) (hs:starEach [e] X.env=(false,eval e X.env)::starEach [] X.env:=by rfl)
  (hsw:swapsWith (.Call (.Attribute (.Name x npos) "append" apos) [e] [] cpos) none pos.line X.env=pure false:=by rfl):
  PS X (.Expr (.Call (.Attribute (.Name x npos) "append" apos) [e] [] cpos) pos) (Nb i t):=by
 refine j9 (Il (Rv (T:= "list") (id:= "list.append") (r:=fun v vs H1 Q=>∃l us y,v= .ref l/\vs= [y]/\H1 l=some (.lst us)/\us.length<sizeLine/\Q .non (upd H1 l (.lst (us++ [y])))) PySem.F.plainAttrs_list PySem.F.slot_list_append PySem.F.type_list_append ?_ (tG (i:=i) hN hv hd hcd) (uf he yq hs) hbase hfew hline hs rfl) hsw) ?_
 ·rintro pins s σ H x xs v us Q I rx rs ⟨l,ys,y,e1,e2,h1,h2,h3⟩;exact JC pins s σ H x xs v us Q I rx rs ⟨l,ys,y,e1,e2,h1,h2,h3⟩
 ·rintro Dn σ H ⟨a,vs,e1,e2,h⟩;exact⟨.ref a,e1,.inl ⟨rfl,vs,.inl (.inl e2)⟩,h⟩
def Nf(i:Nat)(te:aB):aq:=fun D Γ E=>(∃as ts,Γ[i]?=some (.tr as (.lst ts)))/\te Γ (fun d Γ1=>match Γ1[i]? with | some (.tr as (.lst ts))=>ts.length<sizeLine/\D.nx (Γ1.set i (.tr as (.lst (ts++ [.leaf d])))) | _=>False) E
def cTN(i:Nat)(tn:gq):aq:=fun D Γ E=>(∃as ts,Γ[i]?=some (.tr as (.lst ts)))/\tn Γ (fun t Γ1=>match Γ1[i]? with | some (.tr as (.lst ts))=>ts.length<sizeLine/\∀cs,D.nx (Γ1.set i (.tr (as++cs) (.lst (ts++ [t])))) | _=>False) E
theorem Vr(he:QE X F0 H0 e te)(hN:X.N[i]?=some x)(hv:nP X.env.scope x)
  (hd:(x==("__debug__" :Str))=false:=by decide) (hcd:(x==("__classdict__" :Str))=false:=by decide)
  (hbase:attributeBase (.Name x npos) "append" X.env (eval (.Name x npos) X.env)=eval (.Name x npos) X.env:=by rfl)
  (hfew:((backTo cpos (starEach [e] X.env)).all (fun x=> !x.1)&&(backToKw cpos (keywordEach [] X.env)).all (fun x=>x.1.isSome)
   &&decide ([e].length+ ([]:List Keyword).length+ (if ([]:List Keyword).isEmpty then 0 else 1)<30))=true:=by rfl)
  (hline:(apos.endLine==cpos.line)=true:=by rfl) (hs:starEach [e] X.env=(false,eval e X.env)::starEach [] X.env:=by rfl)
  (hsw:swapsWith (.Call (.Attribute (.Name x npos) "append" apos) [e] [] cpos) none pos.line X.env=pure false:=by rfl):
  QS X F0 H0 (.Expr (.Call (.Attribute (.Name x npos) "append" apos) [e] [] cpos) pos) (Nf i te):=fun z E cx=>
 j9 (zpl (X:=X.wsh z) (he z E cx) hN hv hd hcd hbase hfew hline hs hsw) fun Dn σ H ou=>by
  obtain⟨F,Γ,D2,R,⟨⟨as,ts,e0⟩,h⟩,k⟩:=ou;obtain⟨o,e1,v,rfl,nd,hn,r⟩:=R.sl i _ e0;unfold TR at r;obtain⟨a,vs,bs,rfl,rfl,ea,_⟩:=r;refine⟨a,vs,e1,ea,F,Γ,_,R,h,fun d Γ1 F1 H1 w R1 s1 rd q=> ?_⟩;split at q
  ·rename_i as' ts' e2;obtain⟨o,e3,v,rfl,nd',hn',r'⟩:=R1.sl i _ e2;rw[e1] at e3;cases e3;unfold TR at r';obtain⟨a',us,bs',e4,rfl,ea',r'⟩:=r';cases e4;refine⟨a,us,w,rfl,rfl,ea',by rw[<- M8 r'];exact q.1,?_⟩
   refine k.nx _ _ _ _ (R1.wrT e2 e1 (show dN (Slot.tr (a::bs') (.lst ts')) (some (.ref a)) a from zY) (t:= .tr (a::bs') (.lst (ts' ++ [.leaf d]))) ⟨_,rfl,nd',hn',?_⟩ fun b hb=> .inl hb) s1 q.2;unfold TR;have nab:a∉bs' :=(List.nodup_cons.mp nd').1;refine⟨a,us++ [w],bs',rfl,rfl,iu,?_⟩;have m:=bB.move (H' :=upd H1 a (.lst (us++ [w]))) (.refl _) ts' us bs' (fun b hb u q=>by rw[bC (show b≠a from fun z=>nab (z ▸ hb))];exact q) r'
   have l:bB X.K F1 (upd H1 a (.lst (us++ [w]))) [.leaf d] [w] []:=M7 (by unfold TR;exact⟨rfl,rd⟩)
   have:=M6 m l
   rwa [List.append_nil] at this
  ·exact q.elim
end
end L3
namespace L3
open PySem PySem.Spec PyProof.Rows L2
def qd(ks:List Key)(k:Key):Bool:=ks.any fun k' =>decide (k' =k)
def rK(ks:List Key)(k:Key):List Key:=if qd ks k=true then ks else ks++ [k]
def rM{α:Type}(ks:List Key)(xs:List α)(k:Key)(x:α):List α:=if qd ks k=true then List.zipWith (fun k' y=>if k' =k then x else y) ks xs else xs++ [x]
theorem Vs{K:W.Frag}{F H:Hp}:∀{xs:List D} {vs:List V} {as:List Addr},bB K F H (xs.map .leaf) vs as ->as= []/\ak K F xs vs
 | [],vs,as,h=>by rw[List.map_nil] at h;unfold bB at h;unfold ak;exact⟨h.2,h.1⟩
 | x::xs,vs,as,h=>by
  rw[List.map_cons] at h;unfold bB at h;obtain⟨v,us,bs,cs,rfl,rfl,h1,h2⟩:=h;unfold TR at h1;obtain⟨rfl,r⟩:=h1;obtain⟨rfl,rs⟩:=Vs h2;exact⟨rfl,pq r rs⟩
def cDP(i:Nat)(tk tv:aB):aq:=fun D Γ E=>tv Γ (fun d Γ1=>(∃as t,Γ1[i]?=some (.tr as t))/\tk Γ1 (fun kd Γ2=>match kd,Γ2[i]? with
 | .int k,some (.tr as (.fB ks ts))=>∃xs,ts=xs.map .leaf/\ks.length<sizeLine/\D.nx (Γ2.set i (.tr as (.fB (rK ks (.inl k)) ((rM ks xs (.inl k) d).map .leaf))))
 | _,_=>False) E) E
section
variable{X:Cx}{F0 H0:Hp}{ke value:Expr}{pos npos pos' :Pos}{x:Str}{i:Nat}{tk tv:aB}
end
section
variable{K:W.Frag}{F0 H0 F H F' H' :Hp}{σ σ' :St}{Γ Γ' :List Slot}
open Classical in
noncomputable def lG (Γ:List Slot) (σ:St) (H:Hp):Hp:=fun b=>if fD Γ σ b then none else H b
theorem zvb(h:fD Γ σ b):lG Γ σ H b=none:=by unfold lG;rw[if_pos h]
theorem Vt(h:¬fD Γ σ b):lG Γ σ H b=H b:=by unfold lG;rw[if_neg h]
theorem Vu(r:fL K F H H0 s o)(h:∀a,dN s o a ->H1 a=none):fL K F H H1 s o:=by
 cases s with
 | no=>trivial
 | pu d=>exact r
 | ow ds=>obtain⟨a,vs,e,e1,e2,e3,r⟩:=r;exact⟨a,vs,e,e1,e2,h a e,r⟩
 | tr as t=>obtain⟨v,e,nd,hn,r⟩:=r;exact⟨v,e,nd,fun b hb=>⟨(hn b hb).1,h b hb⟩,r⟩
 | nt as c t=>obtain⟨p,v,e,e1,nd,hn,r⟩:=r;exact⟨p,v,e,e1,nd,fun b hb=>⟨(hn b hb).1,h b hb⟩,r⟩
 | xe as C fs ts=>obtain⟨a,oe,dx,vs,e,e1,e2,e3,e4,nd,hn,r⟩:=r;exact⟨a,oe,dx,vs,e,e1,e2,e3,e4,nd,fun b hb=>⟨(hn b hb).1,h b hb⟩,r⟩
theorem SR.reb(R:SR K F0 H0 F H σ Γ):SR K F (lG Γ σ H) F H σ Γ:=by
 refine⟨⟨.refl _,R.g,fun b u e=> ?_,fun b o e n=>by rw[e] at n;cases n⟩,R.len,fun i s e=> ?_,R.ap⟩
 ·unfold lG at e;split at e
  ·cases e
  ·exact e
 ·obtain⟨o,e1,r⟩:=R.sl i s e;exact⟨o,e1,Vu r fun a ha=>zvb ⟨i,s,o,e,e1,ha⟩⟩
theorem Gr.unreb(g:Gr F0 H0 F H)(s:Same H0 H1)(g' :Gr F H1 F' H'):Gr F0 H0 F' H' :=by
 refine⟨g.f.trans g'.f,g'.g,s.trans g'.h,fun b o e n=> ?_⟩;cases q:F b with
 | none=>exact lD.back s (g'.n b o e q)
 | some u=>have:=g'.f _ _ q;rw[e] at this;cases this;exact g.n b _ q n
theorem SR.unreb(g:Gr F0 H0 F H)(s:Same H0 H1)(R:SR K F H1 F' H' σ' Γ'):SR K F0 H0 F' H' σ' Γ' :=by
 refine⟨g.unreb s R.gr,R.len,fun i t e=> ?_,R.ap⟩;obtain⟨o,e1,r⟩:=R.sl i t e;exact⟨o,e1,Vu r fun a ha=>s.free (pL r ha).2.1⟩
end
def CG(i x:Nat)(a b:Addr)(mK:List T)(j:Nat)(I:Nat ->G2 ->Prop):G2 ->Prop:=fun Γ' =>∃cs' us',Γ'[x]?=some (Slot.tr (b::cs') (.lst us'))/\Γ'[i]?=some (Slot.pu (.ptr a))/\
 ∀q:List Addr,I (j+1) ((Γ'.set x Slot.no).set i (Slot.tr (a::q) (.lst (mK.set j (.lst us')))))
def Vv(i x:Nat)(tb:aq):aq:=fun D0 Γ _=>∃as ts,Γ[i]?=some (Slot.tr as (.lst ts))/\∀a bs,as=a::bs ->∃I:Nat ->G2 ->Prop,I 0 Γ/\
 (∀(j:Nat) Γ1,j<ts.length ->I j Γ1 ->∃Hi mK us,Γ1[i]?=some (Slot.tr (a::Hi) (.lst mK))/\mK.length=ts.length/\mK[j]?=some (.lst us)/\
  ∀(b:Addr) (cs:List Addr),tb {nx:=CG i x a b mK j I,ct:=fun _=>False,bk:=fun _=>False,rt:=D0.rt,rf:=D0.rf,rT:=D0.rT} ((Γ1.set i (Slot.pu (.ptr a))).set x (Slot.tr (b::cs) (.lst us))) dX)/\
 ∀Γ1,I ts.length Γ1 ->D0.nx Γ1
section
variable{X:Cx}{F0 H0:Hp}{pos px pn:Pos}{xv xn:Str}{i x:Nat}{body:List Stmt}{tb:aq}
open Classical in
end
def nL1(t:gq):gq:=fun Γ P E=>t Γ (fun tr Γ1=>P (.lst [tr]) Γ1) E
section
variable{X:Cx}{F0 H0:Hp}{e:Expr}{pos:Pos}{tn:gq}
end
end L3
namespace L3
open PySem PySem.Spec PyProof.Rows L2 PySem.W
structure Ord (lt:Nat ->Nat ->Bool) (n:Nat):Prop where
 tri:∀i j,i<n ->j<n ->i≠j ->lt i j=false ->lt j i=true
 irr:∀i j,i<n ->j<n ->lt i j=true ->lt j i=false
 tr:∀i j k,i<n ->j<n ->k<n ->lt i j=true ->lt j k=true ->lt i k=true
def Sat{α:Type}(lt:Nat ->Nat ->Bool)(n:Nat)(t:KasT α)(Q:α ->Prop):Prop:=Mp lt n t=true/\Q (Ml lt t)
section
variable{lt:Nat ->Nat ->Bool}{n:Nat}{α β:Type}
def Pm(n:Nat)(p:Array Nat):Prop:=p.toList.Perm (List.range n)
def Lp(lt:Nat ->Nat ->Bool)(p:Array Nat)(i j:Nat):Bool:=lt (p.getD i 0) (p.getD j 0)
def Up(lt:Nat ->Nat ->Bool)(p:Array Nat)(r:Nat):Prop:=∀i j,i<j ->j<r ->Lp lt p i j=true
def Dn(lt:Nat ->Nat ->Bool)(p:Array Nat)(r:Nat):Prop:=∀i j,i<j ->j<r ->Lp lt p j i=true
end
end L3
namespace L3
open PySem PySem.Spec PyProof.Rows L2
def Vw(lt:Nat ->Nat ->Bool)(is:List Nat):Prop:=is.Pairwise fun i j=>lt i j=true
structure aaC (prog:Program) (w:World) (A:Around) (E:bf) (vs:List Value) (lt:Nat ->Nat ->Bool) (T:Heap ->Prop) (κ:SortKind):Prop where
 kind:∀(s:Shared) (Q:SortKind ->Shared ->Prop),T s.heap ->2<=vs.length ->Q κ s ->wpAny (model prog w) A (keyKind' vs.toArray) Q E s
 ask:∀(s:Shared) (i j:Nat) (C:Bool ->Shared ->Prop),T s.heap ->i<vs.length ->j<vs.length ->i≠j ->C (lt i j) s ->W.kas_ask prog w A κ vs i j C s
section
variable{prog:Program}{w:World}{A:Around}{E:bf}{s:Shared}
end
def uM(a b:Str):Bool:=decide (a.cps.toList<b.cps.toList)
def ltX(xs:List Str)(i j:Nat):Bool:=uM (xs.getD i Str.empty) (xs.getD j Str.empty)
def pick{α:Type}(d:α)(xs:List α)(is:List Nat):List α:=is.map fun i=>xs.getD i d
def Ng:Value ->Key | .int i _=> .inl i | .str x _=> .inr x | _=> .inl 0
def uN(xs:List Str):List Str:=(eH (fun i=>(Sum.inr (xs.getD i Str.empty):Key)) xs.length).map fun k=>match k with | .inr x=>x | .inl _=>Str.empty
def CJ(P:Program)(w:World)(a:Addr)(xs:List Str):HO:= .ext fun h=>jt (HS P w) Ng (d7 w) h a ((uN xs).map Sum.inr)
def Vx(X:Cx):List V ->Hp ->VK ->Prop:=fun vs H Q=>∃(p:Addr) (xs:List Str),vs= [.ref p]/\dW X.K H p (xs.map .str)/\xs.length+1<scanBound/\∀q,H q=none ->Q (.ref q) (upd H q (CJ X.prog X.w q xs))
def Vy(X:Cx):List V ->Hp ->VK ->Prop:=fun vs H Q=>∃(q:Addr) (xs:List Str),vs= [.ref q]/\H q=some (CJ X.prog X.w q xs)/\ (uN xs).length<64/\
 ∀(l:Addr) (ms:List Str),H l=none ->ms.Perm (uN xs) ->ms.Pairwise (fun a b=>uM a b=true) ->Q (.ref l) (upd H l (.lst (ms.map .str)))
def vD:List D ->Option (List Str)
 | []=>some []
 | .str x::r=>(vD r).map (x:: ·)
 | _::_=>none
def zy7:List D ->(List D ->Prop) ->Prop:=fun ds P=>match ds with
 | [.lst xs]=>∃ns,vD xs=some ns/\ns.length<4095/\ (uN ns).length<64/\∀ms:List Str,ms.Pairwise (fun a b=>uM a b=true) ->(∀i,i∈ms↔i∈ns) ->P (ms.map .str)
 | _=>False
section
variable{X:Cx}{F0 H0:Hp}{a e:Expr}{pos p pos2 p2:Pos}{t:aO}
end
open PySem.AutoSeq1 (wpAny_loadPart')
open PySem.MeetsSeq PySem.MeetsSeq3 in
open PySem.MeetsSeq PySem.MeetsSeq3 in
def HdT(h:Heap)(v:Value)(x:Str):Prop:=∃a its t,v= .ref a/\PlainL h a its/\its[0]?=some (.str x t)
def gl(g:List Str):D:= .lst (g.map .str)
def hdS(g:List Str):Str:=g.headD Str.empty
def zzb:List D ->(List D ->Prop) ->Prop:=fun ds P=>match ds with
 | [.lst xs]=>∃gs:List (List Str),xs=gs.map gl/\ (∀g∈gs,g≠ [])/\ (gs.map hdS).Nodup/\gs.length<64/\
   ∀ms:List (List Str),ms.Perm gs ->ms.Pairwise (fun a b=>uM (hdS a) (hdS b)=true) ->P (ms.map gl)
 | _=>False
end L3
namespace L3
open PySem PySem.Spec PyProof.Rows L2
open PySem.AutoSeq1 (wpAny_loadPart')
def zy3:List D ->(List D ->Prop) ->Prop:=fun ds P=>match ds with | [.fB ks _]=>P (ks.map cX) | _=>False
end L3
namespace L3
open PySem PySem.Spec PyProof.Rows L2
def Itw(a:Addr)(o:Obj)(kvs:List (Key×V)):It:=⟨fun i H=>H a=some (.frz o (.dK kvs))/\i<kvs.length,fun i H x H' =>H' =H/\∃k,kvs[i]?=some (k,x),fun i H=>H a=some (.frz o (.dK kvs))/\kvs.length<=i⟩
def Vz(te:TE):TI:=fun σ H R=>te σ H fun v H1=>∃a kvs,v= .ref a/\H1 a=some (.dK kvs)/\ (kvs.length<=sizeLine ->∀o,R (Itw a o kvs) (upd H1 a (.frz o (.dK kvs))))
section
variable{K:W.Frag}{F0 H0 F H:Hp}{σ:St}{Γ:List Slot}
end
def zyc(tn:gq):aO:=fun Γ P E=>tn Γ (fun t Γ1=>match t with | .fB _ ts=>P (gK ts) Γ1 | _=>False) E
section
variable{X:Cx}{F0 H0:Hp}{e tg:Expr}{apos cpos:Pos}{tn:gq}
open Classical in
end
def aaD(i:Nat)(tk:aB):TT2:=fun Γ P E=>tk Γ (fun kd Γ1=>∃k as ks ts,kd=cX k/\Γ1[i]?=some (.tr as (.fB ks ts))/\P (!qd ks k) Γ1) E
def aaE(i j:Nat)(tn:gq):aq:=fun D Γ E=>tn Γ (fun t Γ1=>∃k as ks ts,Γ1[j]?=some (.pu (cX k))/\Γ1[i]?=some (.tr as (.fB ks ts))/\qd ks k=false/\ks.length<sizeLine/\∀cs,D.nx (Γ1.set i (.tr (as++cs) (.fB (ks++ [k]) (ts++ [t]))))) E
def aaF(i j l:Nat)(tv:aB):aq:=fun D Γ E=>tv Γ (fun d Γ1=>∃k k2 as ks ts q Hj xs,Γ1[j]?=some (.pu (cX k))/\Γ1[l]?=some (.pu (cX k2))/\Γ1[i]?=some (.tr as (.fB ks ts))/\ks.Nodup/\ks[q]?=some k/\
 ts[q]?=some (.fB Hj (xs.map .leaf))/\Hj.length<sizeLine/\D.nx (Γ1.set i (.tr as (.fB ks (ts.set q (.fB (rK Hj k2) ((rM Hj xs k2 d).map .leaf))))))) E
section
variable{X:Cx}{F0 H0:Hp}{ke value:Expr}{pos npos VB VD pos' pos2:Pos}{x y w:Str}{i j l:Nat}{tk tv:aB}{tn:gq}
end
def VF(i:Nat):aq:=fun D Γ _=>∃as ts,Γ[i]?=some (.tr as (.lst ts))/\D.nx (Γ.set i .no)
section
variable{X:Cx}{F0 H0:Hp}{pos npos apos cpos:Pos}{x:Str}{i:Nat}
end
abbrev tR:=T ->List D ->(T ->D ->Prop) ->(T ->XV ->Prop) ->Prop
def mL(as:List Addr)(H:Hp):Hp:=fun b=>if b∈as then none else H b
def rN(K:W.Frag)(sp:tR):Sp:=fun vs H Q E=>∃F a bs t ds rest P Ex,vs=V.ref a::rest/\Same F H/\ (a::bs).Nodup/\ (∀b∈a::bs,F b=none)/\TR K F H t (.ref a) (a::bs)/\ak K F ds rest/\sp t ds P Ex/\
 (∀t' d v cs F' H',Gr F (mL (a::bs) H) F' H' ->(a::cs).Nodup ->(∀b∈a::cs,F' b=none/\mL (a::bs) H b=none) ->TR K F' H' t' (.ref a) (a::cs) ->Rep K F' d v ->P t' d ->Q v H')/\
 ∀x C dx t' cs F' H',Gr F (mL (a::bs) H) F' H' ->(a::cs).Nodup ->(∀b∈a::cs,F' b=none/\mL (a::bs) H b=none) ->TR K F' H' t' (.ref a) (a::cs) ->qG K F' (mL (a::bs) H) H' C dx x ->Ex t' x ->E C dx H'
def startM(n:Nat)(s:Slot)(ds:List D):G2:=s::(ds.map .pu++List.replicate (n - 1 - ds.length) .no)
section
variable{K:W.Frag}{F0 H0 F H F' H' :Hp}{σ:St}{Γ:List Slot}
end
structure aaG (P:Program) (w:World) (K:W.Frag) (mg:Str ->Option Value) (base:Heap) (x:Str) (k:Nat) (ps:List Str) (sp:tR):Prop where
 ex:∃f fd,cJ P w K mg base (cN P w) k f fd ps (rN K sp)/\mg x=some (.ref f)/\W.keepIn K (.ref f)=true/\Binds K fd ps []
structure aaH (P:Program) (w:World) (K:W.Frag) (mg:Str ->Option Value) (base:Heap) (C:Addr) (m:Str) (k:Nat) (ps:List Str) (sp:tR):Prop where
 ex:∃f fd,cJ P w K mg base (cN P w) k f fd ps (rN K sp)/\Meth K C m f/\Binds K fd ps []
abbrev aaI(a:Addr)(Q:T ->D ->Prop):iT:={nx:=fun Γ=>∃cs t',Γ[0]?=some (.tr (a::cs) t')/\Q t' .non,rt:=fun _=>False,rm:=fun d Γ=>∃cs t',Γ[0]?=some (.tr (a::cs) t')/\Q t' d}
abbrev aaJ(a:Addr)(Ex:T ->XV ->Prop):XW:=fun Γ C=>∃cs t',Γ[0]?=some (.tr (a::cs) t')/\Ex t' C
section
variable{P:Program}{w:World}{K:W.Frag}{mg:Str ->Option Value}{base:Heap}
end
def VG(te:aB):aq:=fun D Γ E=>te Γ (fun d Γ1=>D.rm d Γ1) E
def Nh(C:Addr)(m:Str)(i:Nat)(sp:tR)(t:aO):aB:=fun Γ P E=>(∃as fs ts,Γ[i]?=some (.tr as (.ob C fs ts))/\m∉fs)/\t Γ (fun ds Γ1=>∃a bs tt,Γ1[i]?=some (.tr (a::bs) tt)/\sp tt ds (fun t' d=>∀cs,P d (Γ1.set i (.tr (a::cs) t'))) fun t' Cx=>∀cs,E (Γ1.set i (.tr (a::cs) t')) Cx.bare) E
def Ni(i:Nat)(sp:tR)(t:aO):aB:=fun Γ P E=>(∃a bs tt,Γ[i]?=some (.tr (a::bs) tt))/\t Γ (fun ds Γ1=>∃a bs tt,Γ1[i]?=some (.tr (a::bs) tt)/\sp tt ds (fun t' d=>∀cs,P d (Γ1.set i (.tr (a::cs) t'))) fun t' Cx=>∀cs,E (Γ1.set i (.tr (a::cs) t')) Cx.bare) E
section
variable{X:Cx}{F0 H0:Hp}{e:Expr}{es:List Expr}{pos p apos:Pos}{x m:Str}{C f:Addr}{fd:FuncData}{ps:List Str}{k i:Nat}{sp:tR}{te:aB}{t:aO}
end
def aaK(h:Heap)(d:Addr)(es:Array DictEntry)(ep:Nat):Prop:=∃o,h.get? d=some o/\o.ExactDict/\o.data= .dict es ep
section
variable{prog:Program}{w:World}{A:Around}{E:bf}{s:Shared}{d it:Addr}{es:Array DictEntry}{ep i:Nat}
end
section
variable{κ:Type}[DecidableEq κ]
variable{prog:Program}{w:World}{knd:HeapKind prog w κ}{A:Around}{E:bf}{s:Shared}{d a:Addr}{xs:List (κ×Addr×Value)}{k:κ}{p:Addr×Value}
end
def rO(K:W.Frag)(H:Hp)(y:V)(k:List Key):Prop:=∃b,y= .ref b/\iw K H b (k.map kV)
section
variable{X:Cx}{pins:aV}{σ:St}{H:Hp}{s:Shared}{a:Addr}{y v:V}{u r:Value}{A:Around}{E:bf}{kvs:List (List Key×V)}{k:List Key}
end
def Nj(K:W.Frag)(td ty:TE):TE:=fun σ H Q=>td σ H fun x H1=>ty σ H1 fun y H2=>∃a kvs k v,x= .ref a/\Rd H2 a (.dT kvs)/\rO K H2 y k/\j7 kvs k=some v/\Q v H2
def VH(K:W.Frag)(neg:Bool)(ty td:TE):TE:=fun σ H Q=>ty σ H fun y H1=>td σ H1 fun x H2=>∃a kvs k,x= .ref a/\Rd H2 a (.dT kvs)/\rO K H2 y k/\Q (.bl (if neg then !(j7 kvs k).isSome else(j7 kvs k).isSome)) H2
def Nk(K:W.Frag)(td ty:TE):TE:=fun σ H Q=>td σ H fun x H1=>∃a,x= .ref a/\Aq H1 a/\ty σ H1 fun y H2=>∃kvs k v,H2 a=some (.dT kvs)/\rO K H2 y k/\j7 kvs k=some v/\Q v (upd H2 a (.dT (o7 kvs k)))
section
variable{X:Cx}{o i e:Expr}{pos apos cpos:Pos}{td ty:TE}
end
def qe(ks:List (List Key))(k:List Key):Bool:=ks.any fun k' =>decide (k' =k)
def mO{α:Type}:List (List Key) ->List α ->List Key ->Option α
 | k' ::ks,x::xs,k=>if k' =k then some x else mO ks xs k
 | _,_,_=>none
def putL(ks:List (List Key))(k:List Key):List (List Key):=if qe ks k=true then ks else ks++ [k]
def vG{α:Type}(ks:List (List Key))(xs:List α)(k:List Key)(x:α):List α:=if qe ks k=true then List.zipWith (fun k' y=>if k' =k then x else y) ks xs else xs++ [x]
def lH{α:Type}:List (List Key) ->List α ->List Key ->List α
 | k' ::ks,x::xs,k=>if k' =k then lH ks xs k else x::lH ks xs k
 | _,_,_=> []
def vH(ks:List (List Key))(k:List Key):List (List Key):=ks.filter fun k' =>decide (k' ≠k)
def aaL:D ->D ->(D ->Prop) ->Prop:=fun x y P=>match x,y with | .fU ks xs,.tup ds=>∃k d,ds=k.map cX/\mO ks xs k=some d/\P d | _,_=>False
section
variable{X:Cx}{F0 H0:Hp}{a b:Expr}{pos:Pos}{ta tb:aB}
end
def mQ:List Str ->List T ->Str ->Option T
 | f::fs,t::ts,g=>if g=f then some t else mQ fs ts g
 | _,_,_=>none
def rP :List Str ->List T ->Str ->T ->List T
 | f::fs,t::ts,g,t' =>if g=f then t' ::ts else t::rP fs ts g t'
 | _,ts,_,_=>ts
def VJ(C:Addr)(i:Nat)(f:Str):aB:=fun Γ P _=>∃as fs ts d,Γ[i]?=some (.tr as (.ob C fs ts))/\mQ fs ts f=some (.leaf d)/\P d Γ
def aaM(C:Addr)(neg:Bool)(i:Nat)(f:Str)(tk:aB):TT2:=fun Γ P E=>tk Γ (fun kd Γ1=>∃k as fs ts ks us,kd= .tup (k.map cX)/\Γ1[i]?=some (.tr as (.ob C fs ts))/\mQ fs ts f=some (.fU ks us)/\P (if neg then !qe ks k else qe ks k) Γ1) E
def VL(C:Addr)(i:Nat)(f:Str)(j l:Nat)(tv:aB):aq:=fun D Γ E=>tv Γ (fun d Γ1=>∃k1 k2 as fs ts ks xs,Γ1[j]?=some (.pu (cX k1))/\Γ1[l]?=some (.pu (cX k2))/\Γ1[i]?=some (.tr as (.ob C fs ts))/\mQ fs ts f=some (.fU ks (xs.map .leaf))/\ks.length<sizeLine/\
 D.nx (Γ1.set i (.tr as (.ob C fs (rP fs ts f (.fU (putL ks [k1,k2]) ((vG ks xs [k1,k2] d).map .leaf))))))) E
def VN(C:Addr)(i:Nat)(f:Str)(j l:Nat):aq:=fun D Γ _=>∃k1 k2 as fs ts ks xs d,Γ[j]?=some (.pu (cX k1))/\Γ[l]?=some (.pu (cX k2))/\Γ[i]?=some (.tr as (.ob C fs ts))/\mQ fs ts f=some (.fU ks (xs.map .leaf))/\mO ks xs [k1,k2]=some d/\
 D.nx (Γ.set i (.tr as (.ob C fs (rP fs ts f (.fU (vH ks [k1,k2]) ((lH ks xs [k1,k2]).map .leaf))))))
section
variable{X:Cx}{F0 H0:Hp}{ke value e:Expr}{es:List Expr}{pos npos aaN apos cpos pos' x1:Pos}{x f:Str}{C:Addr}{i:Nat}{tk tv:aB}{tf:aO}
end
def nDT:gq:=fun Γ P _=>P (.fU [] []) Γ
def VP(C:Addr)(i:Nat)(f:Str)(te:aB):aq:=fun D Γ E=>te Γ (fun d Γ1=>∃as fs ts,Γ1[i]?=some (.tr as (.ob C fs ts))/\f∉fs/\fs.length<1000/\pK (fs++ [f])=true/\D.nx (Γ1.set i (.tr as (.ob C (fs++ [f]) (ts++ [.leaf d]))))) E
def Nm(C:Addr)(i:Nat)(f:Str)(tn:gq):aq:=fun D Γ E=>tn Γ (fun t Γ1=>∃as fs ts,Γ1[i]?=some (.tr as (.ob C fs ts))/\f∉fs/\fs.length<1000/\pK (fs++ [f])=true/\∀cs,D.nx (Γ1.set i (.tr (as++cs) (.ob C (fs++ [f]) (ts++ [t]))))) E
section
variable{X:Cx}{F0 H0:Hp}{value e:Expr}{es:List Expr}{pos npos pos' p:Pos}{x f:Str}{C fa:Addr}{fd:FuncData}{ps:List Str}{i k:Nat}{te:aB}{tn:gq}{sp:tR}{t:aO}
def Np(C:Addr)(sp:tR)(t:aO):gq:=fun Γ P E=>t Γ (fun ds Γ1=>sp (.ob C [] []) ds (fun t' _=>P t' Γ1) fun _ Cx=>E Γ1 Cx) E
structure aaO (P:Program) (w:World) (K:W.Frag) (mg:Str ->Option Value) (base:Heap) (x:Str) (C:Addr) (k:Nat) (ps:List Str) (sp:tR):Prop where
 ex:∃f fd,cJ P w K mg base (cN P w) k f fd ps (rN K sp)/\Mk K C f/\mg x=some (.ref C)/\Binds K fd ps []
 non:∀ds Q Ex,sp (.ob C [] []) ds Q Ex ->sp (.ob C [] []) ds (fun t d=>d= .non/\Q t d) Ex
end
def Nq(C:Addr)(m:Str)(sp:bH)(te:aB):aB:=fun Γ P E=>te Γ (fun d Γ1=>match d with
 | .obj C' fs ds=>C' =C/\m∉fs/\sp [.obj C' fs ds] (fun r=>P r Γ1) fun Cx=>E Γ1 Cx
 | _=>False) E
section
variable{X:Cx}{F0 H0:Hp}{o:Expr}{pos apos:Pos}{m:Str}{C:Addr}{ps:List Str}{k:Nat}{sp:bH}{te:aB}
end
abbrev P2:=Str×Str
def Nr(a b:P2):Bool:=uM a.1 b.1 || (decide (a.1=b.1)&&uM a.2 b.2)
def VR:P2:=(Str.empty,Str.empty)
def aaP(xs:List P2)(i j:Nat):Bool:=Nr (xs.getD i VR) (xs.getD j VR)
def aaQ(h:Heap)(v:Value)(p:P2):Prop:=∃(a:Addr) (o:Obj) (m:Nat) (t u:Tok),v= .ref a/\h.get? a=some o/\o.cls= .type "tuple" /\o.data= .seq #[.str p.1 t,.str p.2 u] m
def V0(p:P2):List Key:= [.inr p.1,.inr p.2]
def pairD(p:P2):D:= .tup [.str p.1,.str p.2]
def xq(H:Hp)(w:V)(p:P2):Prop:=∃b,w= .ref b/\H b=some (.tup [.str p.1,.str p.2])
def Nt(X:Cx):List V ->Hp ->VK ->Prop:=fun vs H Q=>∃(q:Addr) (kvs:List (List Key×V)) (ps:List P2),vs= [.ref q]/\Rd H q (.dT kvs)/\kvs.map (·.1)=ps.map V0/\ps.length<64/\
 ∀(l:Addr) (ms:List P2) (ws:List V),H l=none ->ms.Perm ps ->ms.Pairwise (fun a b=>Nr a b=true) ->ws.length=ms.length ->(∀(i:Nat) w p,ws[i]?=some w ->ms[i]?=some p ->xq H w p) ->Q (.ref l) (upd H l (.lst ws))
def zyj:List D ->(List D ->Prop) ->Prop:=fun ds P=>match ds with
 | [.fU ks _]=>∃ps:List P2,ks=ps.map V0/\ps.length<64/\∀ms:List P2,ms.Perm ps ->ms.Pairwise (fun a b=>Nr a b=true) ->P (ms.map pairD)
 | _=>False
section
variable{X:Cx}{F0 H0:Hp}{a:Expr}{pos p:Pos}{t:aO}
end
def signs(x:Str):List Str:=x.cps.toList.map fun c=>⟨#[c]⟩
def Itx(x:Str):It:=⟨fun i _=>i<x.cps.size,fun i H v H' =>H' =H/\∃c,x.cps[i]?=some c/\v= .str ⟨#[c]⟩,fun i _=>x.cps.size<=i⟩
def aaR(te:TE):TI:=fun σ H R=>te σ H fun v H1=>∃x,v= .str x/\R (Itx x) H1
def zzf(te:aB):aO:=fun Γ P E=>te Γ (fun d Γ1=>match d with | .str x=>x.length<=sizeLine/\P ((signs x).map .str) Γ1 | _=>False) E
section
variable{X:Cx}{F0 H0:Hp}{e tg:Expr}{te:aB}
end
def aaS:D ->D ->(D ->Prop) ->Prop:=fun x y P=>match x,y with | .str a,.str b=>P (.bl (!uM b a)) | _,_=>False
def CK(x:Str)(b:Nat):Str:=⟨(x.cps.toList.take b).toArray⟩
def CN(x:Str)(a:Nat):Str:=⟨(x.cps.toList.drop a).toArray⟩
def aaT:V ->Option Int ->Option Int ->Hp ->VK ->Prop:=fun x lo hi H Q=>∃z:Str,x= .str z/\z.length<=sizeLine/\ ((∃b:Nat,lo=none/\hi=some (b:Int)/\Q (.str (CK z b)) H)\/∃a:Nat,lo=some (a:Int)/\hi=none/\Q (.str (CN z a)) H)
def aaU(te:aB)(tl th:tQ):aB:=fun Γ P E=>te Γ (fun d Γ1=>tl Γ1 (fun l Γ2=>th Γ2 (fun u Γ3=>match d with
 | .str z=>z.length<=sizeLine/\ ((∃b:Nat,l=none/\u=some (b:Int)/\P (.str (CK z b)) Γ3)\/∃a:Nat,l=some (a:Int)/\u=none/\P (.str (CN z a)) Γ3)
 | _=>False) E) E) E
section
variable{X:Cx}{F0 H0:Hp}{e:Expr}{lo hi:Option Expr}{pos p2:Pos}{te:aB}{tl th:tQ}
end
def cUp(te:aB):aB:=fun Γ P E=>te Γ (fun d Γ1=>match d with | .str z=>∃c:Nat,z=⟨#[c]⟩/\97<=c/\c<=122/\P (.str ⟨#[c - 32]⟩) Γ1 | _=>False) E
section
variable{X:Cx}{F0 H0:Hp}{o:Expr}{apos cpos:Pos}{te:aB}
end
def zug:List D ->D ->(D ->Prop) ->Prop:=fun xs y P=>match y with
 | .bl true=>∃(bs:List Bool) (j:Nat),xs=bs.map .bl/\bs[j]?=some true/\ (∀m,m<j ->bs[m]?=some false)/\bs.length<1000/\P (.int j)
 | _=>False
def aaV(ta tb:aB):aB:=fun Γ P E=>ta Γ (fun d Γ1=>match d with | .lst xs=>tb Γ1 (fun y Γ2=>zug xs y fun r=>P r Γ2) E | _=>False) E
section
variable{X:Cx}{F0 H0:Hp}{o e:Expr}{apos cpos:Pos}{ta tb:aB}
end
section
variable{X:Cx}{F0 H0:Hp}{e:Expr}{es:List Expr}{pos p np:Pos}{x y:Str}{ps:List Str}{k i:Nat}{sp:tR}{t:aO}
end
section
variable{prog:Program}{w:World}{A:Around}{E:bf}{s:Shared}
end
def V1(K:W.Frag)(n:Nat)(t:tZ):TG:=fun v σ H Q=>∃a xs,v= .ref a/\dW K H a xs/\xs.length=n/\t xs σ H Q
def aaW(n:Nat)(gs:kj):iQ:=fun d Γ Q E=>match d with | .lst ds=>ds.length=n/\gs ds Γ Q E | _=>False
section
variable{X:Cx}{F0 H0:Hp}{es:List Expr}{gs:kj}{pos:Pos}
end
def CP:List Str ->Str
 | []=>Str.empty
 | x::xs=>x++CP xs
def CQ:List Str ->Nat
 | []=>0
 | x::xs=>x.length+CQ xs
def V2(te:aB):aB:=fun Γ P E=>te Γ (fun d Γ1=>match d with | .lst ds=>∃xs:List Str,ds=xs.map .str/\CQ xs<1000/\P (.str (CP xs)) Γ1 | _=>False) E
section
variable{X:Cx}{F0 H0:Hp}{e:Expr}{apos cpos spos:Pos}{j}{te:aB}
end
section
variable{prog:Program}{w:World}{A:Around}{E:bf}{s:Shared}
end
def cmH(X:Cx):Prop:=∃a o u vs,X.A.handled=some (.ref a)/\X.H₀ a=some (.frz o u)/\o.data= .fields vs/\vs[2]?=some Value.none
def iLh(te:aB):aO:=fun Γ P E=>te Γ (fun d Γ1=>match d with | .lst ds=>P ds Γ1 | _=>False) E
section
variable{X:Cx}{F0 H0:Hp}{e tg:Expr}{te:aB}{a:Addr}
end
def V3(i:Nat)(t:gq):aq:=fun D Γ E=>t Γ (fun tr Γ1=>((∀d,tr≠ .leaf d)/\∀k,tr≠ .kt k)/\∀a bs,D.nx (Γ1.set i (.tr (a::bs) tr))) E
def V4(j:Nat)(t:aO):aq:=fun D Γ E=>t Γ (fun ds Γ1=>ds.length<=sizeLine/\∃k:List Key,ds=k.map cX/\D.nx (Γ1.set j (.tr [] (.kt k)))) E
def aaX(neg:Bool)(i j:Nat):TT2:=fun Γ P _=>∃k as ks us,Γ[j]?=some (.tr [] (.kt k))/\Γ[i]?=some (.tr as (.fU ks us))/\P (if neg then !qe ks k else qe ks k) Γ
def aaY(i j:Nat):aB:=fun Γ P _=>∃k as ks xs d,Γ[j]?=some (.tr [] (.kt k))/\Γ[i]?=some (.tr as (.fU ks (xs.map .leaf)))/\mO ks xs k=some d/\P d Γ
def V5(i j:Nat)(tv:aB):aq:=fun D Γ E=>tv Γ (fun d Γ1=>∃k as ks xs,Γ1[j]?=some (.tr [] (.kt k))/\Γ1[i]?=some (.tr as (.fU ks (xs.map .leaf)))/\ks.length<sizeLine/\D.nx (Γ1.set i (.tr as (.fU (putL ks k) ((vG ks xs k d).map .leaf))))) E
def V6(i j:Nat):aq:=fun D Γ _=>∃k as ks xs d,Γ[j]?=some (.tr [] (.kt k))/\Γ[i]?=some (.tr as (.fU ks (xs.map .leaf)))/\mO ks xs k=some d/\D.nx (Γ.set i (.tr as (.fU (vH ks k) ((lH ks xs k).map .leaf))))
section
variable{X:Cx}{F0 H0:Hp}{value:Expr}{es:List Expr}{pos npos kpos apos cpos pos' x1:Pos}{x y:Str}{i j:Nat}{tv:aB}{t:aO}
end
section
variable{K:W.Frag}{F0 H0 F H:Hp}{σ:St}{Γ:List Slot}
open Classical in
end
def cVF(i:Nat):aB:=fun Γ P _=>∃as t,Γ[i]?=some (.tr as t)/\P (toD t) (Γ.set i (.pu (toD t)))
structure aaZ (P:Program) (w:World) (K:W.Frag) (mg:Str ->Option Value) (base:Heap) (C:Addr) (m:Str) (k:Nat) (ps:List Str) (sp:nO):Prop where
 ex:∃f fd,cJ P w K mg base (cN P w) k f fd ps (pC K sp)/\Meth K C m f/\Binds K fd ps []
def Nu(C:Addr)(m:Str)(sp:nO)(te:aB):gq:=fun Γ P E=>te Γ (fun d Γ1=>match d with
 | .obj C' fs ds=>C' =C/\m∉fs/\sp [.obj C' fs ds] (fun t=>P t Γ1) fun Cx=>E Γ1 Cx
 | _=>False) E
section
variable{X:Cx}{F0 H0:Hp}{o:Expr}{pos apos:Pos}{m:Str}{C:Addr}{ps:List Str}{k:Nat}{sp:nO}{te:aB}
end
def Itk(a:Addr)(o:Obj)(kvs:List (List Key×V))(bs:List Addr):It:=⟨fun i H=>H a=some (.frz o (.dT kvs))/\i<bs.length,fun i H x H' =>H' =H/\∃b,bs[i]?=some b/\x= .ref b,fun i H=>H a=some (.frz o (.dT kvs))/\bs.length<=i⟩
def V7(Hz:Hp)(te:TE):TI:=fun σ H R=>te σ H fun v H1=>∃a kvs,v= .ref a/\H1 a=some (.dT kvs)/\ (kvs.length<=sizeLine ->(∀o u,Hz a≠some (.frz o u)) ->∀o (bs:List Addr),bs.length=kvs.length ->(∀(i:Nat) b kv,bs[i]?=some b ->kvs[i]?=some kv ->H1 b=some (.tup (kv.1.map kV))) ->R (Itk a o kvs bs) (upd H1 a (.frz o (.dT kvs))))
def V8(n:Nat)(g:iQ)(te:aB)(ti:aB):aO:=fun Γ P E=>ti Γ (fun d Γ1=>match d with
 | .fU ks _=>cL (uH g mD te (List.replicate n .no)) (ks.map fun k=> .tup (k.map cX)) fun ys=>∃zs:List Str,ys=zs.map .str/\P ys Γ1
 | _=>False) E
section
variable{X:Cx}{F0 H0:Hp}{sc:Scope}{own:List Str}{N' :List Str}{elt tg iter:Expr}{pos:Pos}{ti te:aB}{g:iQ}
end
def uO:D ->Option (List Key×List D)
 | .fB ks xs=>some (ks,xs)
 | .n6 ks xs=>some (ks,xs)
 | _=>none
def rQ:List Key ->List D ->Key ->Option D
 | k' ::ks,x::xs,k=>if k' =k then some x else rQ ks xs k
 | _,_,_=>none
def aa0:D ->D ->(D ->Prop) ->Prop:=fun x y P=>∃ks xs k d,uO x=some (ks,xs)/\y=cX k/\rQ ks xs k=some d/\P d
def aa1(neg:Bool):D ->D ->(D ->Prop) ->Prop:=fun x y P=>∃ks xs k,uO y=some (ks,xs)/\x=cX k/\P (.bl (if neg then !qd ks k else qd ks k))
def V9(td ty tx:aB):aB:=fun Γ P E=>td Γ (fun d Γ1=>∃ks xs,uO d=some (ks,xs)/\ty Γ1 (fun kd Γ2=>tx Γ2 (fun df Γ3=>∃k,kd=cX k/\P ((rQ ks xs k).getD df) Γ3) E) E) E
def zzd:List D ->(D ->Prop) ->Prop:=fun ds P=>match ds with | [d]=>∃ks xs,uO d=some (ks,xs)/\P (.int ks.length) | _=>False
section
variable{X:Cx}{F0 H0:Hp}{a b o e f:Expr}{pos apos cpos:Pos}{ta tb td ty tx:aB}
end
section
variable{X:Cx}
end
def Nv(te:aB):aO:=fun Γ P E=>te Γ (fun d Γ1=>∃ks xs,uO d=some (ks,xs)/\P xs Γ1) E
def Wa(te:aB):aB:=fun Γ P E=>te Γ (fun d Γ1=>∃ks xs ns,uO d=some (ks,xs)/\eY xs=some ns/\P (.int ns.sum) Γ1) E
section
variable{X:Cx}{F0 H0:Hp}{e:Expr}{apos cpos pos p:Pos}{te:aB}
end
def Itf(a:Addr)(o:Obj)(kvs:List (Key×V)):It:=⟨fun i H=>H a=some (.frz o (.dK kvs))/\i<kvs.length,fun i H x H' =>H' =H/\∃k v,kvs[i]?=some (k,v)/\x=kV k,fun i H=>H a=some (.frz o (.dK kvs))/\kvs.length<=i⟩
def Nx(te:TE):TI:=fun σ H R=>te σ H fun v H1=>∃a o kvs,v= .ref a/\H1 a=some (.frz o (.dK kvs))/\ (kvs.length<=sizeLine ->R (Itf a o kvs) H1)
def zze(te:aB):aO:=fun Γ P E=>te Γ (fun d Γ1=>match d with | .n6 ks _=>P (ks.map cX) Γ1 | _=>False) E
section
variable{X:Cx}{F0 H0:Hp}{e tg:Expr}{te:aB}
end
def Wb(tn:gq):aB:=fun Γ P E=>tn Γ (fun t Γ1=>match t with | .fB ks ts=>P (.n6 ks (gK ts)) Γ1 | _=>False) E
def Ny(i:Nat)(t:aq):aq:=fun D Γ E=>∃as ks ts,Γ[i]?=some (.tr as (.fB ks ts))/\t D (Γ.set i (.pu (.n6 ks (gK ts)))) E
section
variable{K:W.Frag}{F0 H0 F H:Hp}{σ:St}{Γ:List Slot}
open Classical in
end
section
variable{X:Cx}{F0 H0:Hp}{e:Expr}{st:Stmt}{tn:gq}{ts:aq}
end
def aa2(i:Nat)(tk tv:aB):aq:=fun D Γ E=>tv Γ (fun d Γ1=>(∃as t,Γ1[i]?=some (.tr as t))/\tk Γ1 (fun kd Γ2=>∃k as ks xs,kd=cX k/\Γ2[i]?=some (.tr as (.fB ks (xs.map .leaf)))/\ks.length<sizeLine/\D.nx (Γ2.set i (.tr as (.fB (rK ks k) ((rM ks xs k d).map .leaf))))) E) E
section
variable{X:Cx}{F0 H0:Hp}{ke value:Expr}{pos npos pos' :Pos}{x:Str}{i:Nat}{tk tv:aB}
end
def zyv:List D ->(List D ->Prop) ->Prop:=fun ds P=>match ds with
 | [d]=>∃xs:List Str,∃ys,uO d=some (xs.map .inr,ys)/\xs.Nodup/\xs.length<64/\∀ms:List Str,ms.Perm xs ->ms.Pairwise (fun a b=>uM a b=true) ->P (ms.map .str)
 | _=>False
def Nz(X:Cx):List V ->Hp ->VK ->Prop:=fun vs H Q=>∃(q:Addr) (kvs:List (Key×V)) (xs:List Str),vs= [.ref q]/\Rd H q (.dK kvs)/\kvs.map (·.1)=xs.map .inr/\xs.Nodup/\xs.length<64/\
 ∀(l:Addr) (ms:List Str),H l=none ->ms.Perm xs ->ms.Pairwise (fun a b=>uM a b=true) ->Q (.ref l) (upd H l (.lst (ms.map .str)))
section
variable{X:Cx}{F0 H0:Hp}{a:Expr}{pos p:Pos}{t:aO}
end
theorem qv(i:Nat)(hN:X.N[i]?=some x:=by exact rfl)(hv:nP X.env.scope x:=by first | exact Or.inl rfl | exact Or.inr (Or.inl rfl) | exact Or.inr (Or.inr rfl))(hd:(x==("__debug__" :Str))=false:=by decide)(hcd:(x==("__classdict__" :Str))=false:=by decide):QE X F0 H0 (.Name x pos) (cV i):=zxh hN hv hd hcd
end L3
namespace Hd
open PySem PySem.W PySem.Calls PyProof.Rows
def cut(h:Heap)(n:Nat):Frag:=(List.range n).filterMap fun a=>(h.get? a).map fun o=>(a,o)
theorem zst{h:Heap}:∀{l:List Nat} {a:Addr} {o:Obj},(l.filterMap fun a=>(h.get? a).map fun o=>(a,o)).lookup a=some o ->h.get? a=some o:=by
 intro l;induction l with
 | nil=>intro a o e;cases e
 | cons b r ih=>
  intro a o e;rw[List.filterMap_cons] at e;cases hb:h.get? b with
  | none=>rw[hb] at e;exact ih e
  | some x=>
   rw[hb] at e;simp only [Option.map_some,List.lookup_cons] at e;split at e
   ·rename_i q;cases e;rw[beq_iff_eq.mp q];exact hb
   ·exact ih e
theorem zxf(h:Heap)(n:Nat):(cut h n).In h:=fun _ _ e=>zst e
def treeOf:List Obj ->Nat ->BT ->BT
 | [],_,t=>t
 | o::r,i,t=>treeOf r (i+1) (t.ins i o)
abbrev ann:Option Value:=some (.ref 6)
abbrev z:Pos:=⟨0,0,0,0⟩
def env(p:Program):Env:={scope:=p.main.scope,locals:=mainNs,globals:=mainNs,cells:= [],code:= .ref 13,frame:=some 14}
def cB(p:Program):Code:= .body (behindTheImports p) (env p)
noncomputable section
def S0(w:World)(os:OsState):Shared:=⟨boot_heap w.params,Array.mk [],boot_drawn,boot_toks,os⟩
def Sa(x:Option (Shared×Thread))(w:World)(os:OsState):Shared:=match x with | some y=>y.1 | none=>S0 w os
def Ta(s:Shared):SharedT:=⟨treeOf s.heap.objs.toList 0 .nil,15,s.heap.life,s.gens,s.drawn,s.toks,s.os⟩
abbrev TB:=String ->Option Builtin
abbrev Wc:=TB ->Program ->World ->Nat ->Option Value ->Nat ->Shared ->Thread ->Option (Shared×Thread)
abbrev NK:=TB ->Program ->World ->Nat ->Option Value ->Nat ->Nat ->SharedT ->Thread ->Option (Flow×SharedT×Code×Pos)
abbrev NP:=TB ->Program ->World ->Nat ->Option Value ->Nat ->Shared ->Thread ->Option Shared
def fore(tb:TB)(GO:Wc)(p:Program)(w:World)(os:OsState):Shared:=Sa (GO tb p w 11 ann 12 (S0 w os) (topStub p)) w os
def shot{α:Type}(tb:TB)(GO:Wc)(RUN:NK)(TOP:NP)(EXS:List Stmt ->Env ->Sem Flow)(p:Program)(obs:Shared ->α)(w:World)(os:OsState):Option ((Flow×Code)×α):=
 (RUN tb p w 11 ann 1 30000 (Ta (fore tb GO p w os)) ⟨(EXS (behindTheImports p) (env p)).wrap doneF deadEnd id id,cB p,z,[topFrame z]⟩).bind fun x=>
  (TOP tb p w 11 ann 2 x.2.1.abs ⟨doneF .next,x.2.2.1,x.2.2.2,[topFrame z]⟩).map fun s=>((x.1,x.2.2.1),obs s)
def rest{α:Type}(SEEN:Program ->List Str ->List Str ->(Shared ->Bool) ->Bool ->Shared ->α)(p q:Program)(loose:List Str)(Xt:Shared ->Bool){β:Type}(obs:Frag ->β)(n:Nat)(w:World)(s:Shared):Bool×α×β:=
 (staticsOk (importedModules p.main.body) (boot_heap w.params) s.heap&&namesBound p s.heap&&gensDone s&&laidKept (boot_heap w.params) s.heap,SEEN q loose (importedModules p.main.body) Xt true s,obs (cut s.heap n))
theorem size(w:World):((boot_heap w.params).isNs mainGlobals&&(Array.mk []:Array GenState).size==0,(boot_heap w.params).objs.size,(boot_heap w.params).nsMap mainGlobals "__annotations__")=(true,11,ann):=by kernel_rfl
theorem left
  (e:opening p=plainProg p.main.scope.names) (f:∀s,fenceModules? p s=some s)
  (hA:∀w os,topGo treeTable p w 11 ann 12 (S0 w os) (topStub p)=some (fore treeTable topGo p w os,⟨denote treeTable (cB p),cB p,z,[topFrame z]⟩))
  (hB:∀w os,segRun treeTable p w 11 ann 1 1 (fore treeTable topGo p w os) (blockOf (behindTheImports p) (env p) (cB p) z [topFrame z])=some (.next,fore treeTable topGo p w os,cB p,z))
  (hC:∀w os,(Ta (fore treeTable topGo p w os)).abs=fore treeTable topGo p w os)
  (hD:∀w os,shot treeTable topGo segRunT topRun execs p (rest openSeen p q loose Xt obs n w) w os=some ((.next,cB p),(true,openGood q loose,good))):
  LeftO p q loose Xt (fun s=>obs (cut s.heap n)) (fun _=>good) 40000:=fun w=>by
 obtain⟨⟨h,gs,d,k,os⟩,e1,e2⟩:=Option.map_eq_some_iff.mp (boot_open (N:=40000) e (by decide) f w)
 obtain⟨rfl,rfl,rfl,rfl⟩:h=boot_heap w.params/\gs=Array.mk []/\d=boot_drawn/\k=boot_toks:=by simpa using e2
 obtain⟨z1,z2,z3⟩:_/\_/\_:=by simpa only [Prod.mk.injEq] using size w
 obtain⟨⟨fl,S,c,ps⟩,r1,r2⟩:=Option.bind_eq_some_iff.mp (hD w os);obtain⟨s,t1,t2⟩:=Option.map_eq_some_iff.mp r2;obtain⟨u1,u2⟩:=Prod.mk.inj t2;obtain⟨v1,v2⟩:=Prod.mk.inj u1;obtain⟨y1,y2⟩:=Prod.mk.inj u2;obtain⟨y3,y4⟩:=Prod.mk.inj y2;dsimp only at v1 v2 t1;subst v1 v2;have g1:topRun treeTable p w 11 ann (30000+2) (fore treeTable topGo p w os) (restOf (behindTheImports p++ []) (env p) (cB p) z [topFrame z])=some s:=
  piece_app (by have:=segRun_of r1;rw[hC w os] at this;exact this) (piece_nil t1)
 rw[List.append_nil] at g1;have g2:=go_top (hA w os) (piece_block (hB w os) g1);have g3:=topRun_mono (40000 - (12+ (1+ (30000+2)))) _ _ _ _ g2;unfold openEnds;rw[e1];show(topFrom treeTable p w 40000 (S0 w os)).map _=_;unfold topFrom S0;dsimp only;rw[z1,z2,z3];have g4:topRun treeTable p w 11 ann 40000 ⟨boot_heap w.params,Array.mk [],boot_drawn,boot_toks,os⟩ (topStub p)=some s:=g3;rw[g4];show(match staticsOk (importedModules p.main.body) (boot_heap w.params) s.heap&&namesBound p s.heap&&gensDone s&&laidKept (boot_heap w.params) s.heap with | true=>some s | false=>none).map _=_
 rw[y1];show some (openSeen q loose (importedModules p.main.body) Xt true s,obs (cut s.heap n))=_;rw[y3,y4]
end
open L2 L3
def adr(x:Option (Option Value)):Addr:=match x with | some (some (.ref f))=>f | _=>0
def isRef(x:Option (Option Value)):Bool:=match x with | some (some (.ref _))=>true | _=>false
theorem adr_of(h:isRef x=true):x=some (some (.ref (adr x))):=by
 unfold isRef at h;split at h
 ·rfl
 ·cases h
theorem aT [Decidable p](h:(decide p&&b)=true):p/\b=true:=⟨of_decide_eq_true (Bool.and_eq_true_iff.mp h).1,(Bool.and_eq_true_iff.mp h).2⟩
def bare(fd:FuncData):FuncData:={fd with kwdefaults:= .none,doc:= .none,pyModule:= .none,annotations:=none,code:= .none,closureTuple:= .none}
def fnO(K:Frag)(f:Addr)(qual:Str):Option FuncData:=match K.lookup f with
 | some ⟨_,_,.func fd,_⟩=>(match codeIn K fd.code qual&&keepIn K (.ref f) with | true=>some (bare fd) | false=>none)
 | _=>none
def NQ(K:Frag)(v:Value):Bool:=match v with
 | .ref T=>(match K.lookup T with | some ⟨.type t,_,.seq xs _,_⟩=>t== "tuple" &&(match xs.toList with | [.none]=>true | _=>false) | _=>false)
 | _=>false
def fnD(K:Frag)(f:Addr)(qual:Str):Option FuncData:=(fnO K f qual).bind fun fd=>match NQ K fd.defaults with | true=>some {fd with defaults:= .none} | false=>none
theorem zou{K:Frag}{f:Addr}{qual:Str}{g:FuncData}(h:fnO K f qual=some g):∃oc od fd sl,K.lookup f=some ⟨oc,od,.func fd,sl⟩/\codeIn K fd.code qual=true/\keepIn K (.ref f)=true/\bare fd=g:=by
 unfold fnO at h;split at h
 ·rename_i oc od fd sl e;split at h
  ·rename_i q;obtain⟨q1,q2⟩:=Bool.and_eq_true_iff.mp q;exact⟨oc,od,fd,sl,e,q1,q2,zJ h⟩
  ·cases h
 ·cases h
theorem zu5{fd:FuncData}{x qual:Str}{st:Stmt}{dV:Value}(h:bare fd=fnOf x qual (uh st) (pJ st) (bF st) dV .none .none .none none .none .none):
  fd=fnOf x qual (uh st) (pJ st) (bF st) dV fd.kwdefaults fd.doc fd.pyModule fd.annotations fd.code fd.closureTuple:=by
 obtain⟨⟩:=fd;unfold bare at h;dsimp only at h⊢;injection h with h1 h2 h3 h4 h5 h6 h7 h8 h9 _ _ _ _ _ h10;subst h1 h2 h3 h4 h5 h6 h7 h8 h10
 rfl
theorem fun_of{K:Frag}{f:Addr}{x qual:Str}{st:Stmt}(h:fnO K f qual=some (fnOf x qual (uh st) (pJ st) (bF st) .none .none .none .none none .none .none)):∃fd,fK K x qual st f fd:=by
 obtain⟨oc,od,fd,sl,e,c,k,b⟩:=zou h;exact⟨fd,⟨⟨oc,od,_,_,_,_,_,_,sl,zu5 b,e,c⟩,k⟩⟩
def CT(K:Frag)(x:Str):Option FuncData:=match nsIn K mainGlobals x with | some (some (.ref f))=>fnO K f x | _=>none
def fnM(K:Frag)(x:Str):Option FuncData:=match nsIn K mainGlobals x with | some (some (.ref f))=>fnD K f x | _=>none
theorem zp9{K:Frag}{x:Str}{g:FuncData}(h:CT K x=some g):∃f,nsIn K mainGlobals x=some (some (.ref f))/\fnO K f x=some g:=by
 unfold CT at h;split at h
 ·rename_i e;exact⟨_,e,h⟩
 ·cases h
abbrev ex(x qual:Str)(st:Stmt):Option FuncData:=some (fnOf x qual (uh st) (pJ st) (bF st) .none .none .none .none none .none .none)
theorem fun_at{K:Frag}{x:Str}{st:Stmt}(h:CT K x=ex x x st):∃f fd,nsIn K mainGlobals x=some (some (.ref f))/\fK K x x st f fd:=
 let ⟨f,e,h⟩:=zp9 h;let ⟨fd,F⟩:=fun_of h;⟨f,fd,e,F⟩
abbrev d(x:Str)(s:Stmt):Str×Stmt:=(x,s)
def seen(K:Frag)(ds:List (Str×Stmt)):List (Option FuncData):=ds.map fun d=>CT K d.1
def due(ds:List (Str×Stmt)):List (Option FuncData):=ds.map fun d=>ex d.1 d.1 d.2
theorem seen_cons{K:Frag}{d:Str×Stmt}{ds:List (Str×Stmt)}(h:seen K (d::ds)=due (d::ds)):CT K d.1=ex d.1 d.1 d.2/\seen K ds=due ds:=List.cons.inj h
def recOf(s:Stmt):DefRec:=match s with
 | .FunctionDef n a b _ _ _ sc _ _ ps=>⟨n,a,b,sc,ps⟩
 | _=>⟨Str.empty,uh s,[],bF s,z⟩
def aa3(x:Option (Option Value)):Option Int:=match x with | some (some (.int i _))=>some i | _=>none
def oF:List Value ->Option (List (Sum Int Str))
 | []=>some []
 | .int i _::r=>(oF r).map (.inl i:: ·)
 | .str x _::r=>(oF r).map (.inr x:: ·)
 | _=>none
def aa4(K:Frag)(a:Addr):Option (List (Sum Int Str)):=match K.lookup a with
 | some ⟨.type t,_,.seq xs _,_⟩=>if t= "tuple" then oF xs.toList else none
 | _=>none
def Wd:Sum Int Str ->D
 | .inl i=> .int i
 | .inr x=> .str x
theorem walk_ex{l:OpenLaw}{n k:Nat}{q:Program}{loose:List Str}{XP:(Str ->Option Value) ->Heap ->Prop}{YP:World ->Heap ->Prop}{d:DefRec}{Fx:Frag ->Prop}{CX:World ->qt}{sp:Frag ->Sp}{x:Str}
  (hn:l.most=some n) (hn2:n<=sizeLine) (hdf:d.params.defaults= []) (hr:bT k callerA)
  (hY:∀(w:World) (h:Heap),YP w h ->∃K:Frag,K.In h/\Fx K)
  (F:∀(w:World) (K:Frag) (mg:Str ->Option Value) (fa:Addr) (h:Heap),Fx K ->K.In h ->h.Ns mainGlobals mg ->mg d.name=some (.ref fa) ->
   ∃fd:FuncData,(∀(s:Shared) (u:Value),BindsTo s fd ⟨[u],[]⟩ [(x,u)])/\∀b:Heap,K.In b ->b.Ns mainGlobals mg ->cJ l.prog w K mg b (CX w) k fa fd [x] (sp K))
  (hsp:∀(K:Frag) (H:Hp) (a:Addr) (ns:List Int),ns.length<=n ->Only H ->dW K H a (ns.map V.int) ->sp K [.ref a] H (fun v _=>v= .bl true) fun _ _ _=>False)
  (JT:∀(w:World) (H:Hp) (s:Shared) (e:Value) (s' :Shared),CX w [] H s (fun _ _ _=>False) e s' ->False):
  WalkO q loose XP YP l.row.toRowW d [] (fun f vs=>PySem.call f vs):=by
 refine RG.lX hn hdf fun w s₀ s₁ mg mb fa o pm cd doc a vs ns G Y ho hd hcd hmg hobj hints hlen hg=> ?_;obtain⟨K,KX,fx⟩:=hY w _ Y;obtain⟨fd,hb,hF⟩:=F w K mg fa _ fx KX G.T.g hmg;exact zq8 KX G.T.g G.T.b G.T.builtins G.T.nolimit hg hobj hints (zP hlen hn2) hr hF hb (fun H hO hS=>hsp K H a ns hlen hO hS) fun H e s' =>JT w H s₁ e s'
theorem start_binds{K:Frag}{fd:FuncData}{x:Str}{st:Stmt}{f:Addr}(F:fK K "law" "law" st f fd)
  (h:∀(kV doc pm:Value) (an:Option Addr) (cdv ct:Value) (u:Value),bindArgs (fnOf "law" "law" (uh st) (pJ st) (bF st) .none kV doc pm an cdv ct) ⟨[u],[]⟩=pure [(x,u)]) (s:Shared) (u:Value):BindsTo s fd ⟨[u],[]⟩ [(x,u)]:=by
 obtain⟨oc,od,kV,doc,pm,an,cdv,ct,osl,rfl,lk,hcd⟩:=F.ex;exact .of_eq (h kV doc pm an cdv ct u)
theorem holds{l:OpenLaw}{q:Program}{loose:List Str}{β:Type}{obs:Frag ->β}{good:β}{n:Nat}{d:DefRec}(said:l.wellSaid=true)
  (L:LeftO l.row.prog q loose (fun _=>true) (fun s=>obs (cut s.heap n)) (fun _=>good) 40000)
  (hd:defOf q l.row.name=some (d,[])) (hp:l.row.prog.theDef l.row.name=some (d.params,d.body,d.scope)) (hk:kwWritten? d.params.kwonlyargs d.params.kw_defaults=some [])
  (ok:(chainsOk q&&opensWell l.row.prog&&(frees l.row.toRowW&&l.row.within.isEmpty))=true) (hb:l.row.prog.bare) (hw:l.row.toRowW.promised) (wr:l.row.writes=false)
  (walk:WalkO q loose (fun _ _=>True) (fun _ h=>∃K:Frag,K.In h/\obs K=good) l.row.toRowW d [] (fun f vs=>PySem.call f vs)):l.Holds:=
 holds_law said fun k1=>holds_open (XP:=fun _ _=>True) (YP:=fun _ h=>∃K:Frag,K.In h/\obs K=good) L (fun _ s e=>⟨_,zxf s.heap n,e⟩) (fun _ _ _ ⟨K,x,e⟩ k=>⟨K,x.keeps k,e⟩)
  (fun _ _=>trivial) (fun _ _ _ _ _=>trivial) hd hp hk (fun s _=>recFacts_of rfl) (by rw[wr];rfl) k1 ok hb hw walk
end Hd
namespace L3
open PySem PySem.Spec PyProof.Rows L2
section
variable{X:Cx}{F0 H0:Hp}
def Wf(j:Nat)(t1 t2:aO)(tb:aq):aq:=fun Dn Γ E=>t1 Γ (fun Wg Γ1=>Wg.length<=sizeLine/\∃k1:List Key,Wg=k1.map cX/\t2 Γ1 (fun Wh Γ2=>Wh.length<=sizeLine/\∃k2:List Key,Wh=k2.map cX/\
 ∃M:G2 ->Prop,tb {Dn with nx:=M,ct:=M,bk:=Dn.nx} (Γ2.set j (.tr [] (.kt k1))) E/\∀Γ3,M Γ3 ->tb {Dn with nx:=Dn.nx,ct:=Dn.nx,bk:=Dn.nx} (Γ3.set j (.tr [] (.kt k2))) E) E) E
end
section
variable{X:Cx}{pins:aV}{σ:St}{F H:Hp}{s:Shared}{A:Around}
def aa5(neg:Bool):D ->D ->(D ->Prop) ->Prop:=fun x y P=>∃ks xs,uO x=some (ks,xs)/\uO y=some (ks,xs)/\ks.Nodup/\ (∀d∈xs,fV 18 d d)/\P (.bl (!neg))
end
def xu(g:iQ)(tc:TT2)(t:aO)(Γ0:G2)(x:D)(P:List (List D) ->Prop):Prop:=g x Γ0 (fun Γ1=>tc Γ1 (fun b Γ2=>if b=true then t Γ2 (fun ds _=>P [ds]) dX else P []) dX) dX
def jJ(one:D ->(List (List D) ->Prop) ->Prop):List D ->(List (List D) ->Prop) ->Prop
 | [],P=>P []
 | x::xs,P=>one x fun ys=>jJ one xs fun zs=>P (ys++zs)
def iZ(ds:List D):T:= .lst (ds.map .leaf)
def rR(own:Nat)(caps:List Nat)(ti:aO)(g:iQ)(tc:TT2)(t:aO):gq:=fun Γ P E=>ti Γ (fun ds Γ1=>jJ (xu g tc t (gP own caps Γ1)) ds fun ys=>P (.lst (ys.map iZ)) Γ1) E
def fX(K:W.Frag)(t:aO):TE:=fun σ H Q=>∃F0 H0,J2 K F0 H0 t dX σ H Q
theorem zvf(gr:Gr F H F' H')(h:F a=none)(e:H a=some u)(ld:LD u):F' a=none:=by
 cases q:F' a with
 | none=>rfl
 | some w=>
  rcases gr.n a w q h with z | ⟨⟨xs,e'⟩,z⟩
  ·rw[e] at z;cases z
  ·rw[e] at z;cases z;subst e';exact ld.tup.elim
section
variable{F0 H0:Hp}{own:List Str}{caps:List Nat}{g:iQ}{tc:TT2}{t:aO}
theorem zm2{K:W.Frag}{F H:Hp}{σ:St}{Γ:G2}{J:It}{Hx:Hp}{ds:List D}{acc:Addr}{P:List (List D) ->Prop}{Q:V ->Hp ->Prop}(R:SR K F0 H0 F H σ Γ)(hJ:wJ K F Hx J ds)(hx:Same Hx H)(ha:H acc=none)
  (h:jJ (xu g tc t (gP own.length caps Γ)) ds P)
  (fin:∀ys F' H' as,SR K F0 H0 F' H' σ Γ ->Same F F' ->(acc::as).Nodup ->(∀a∈acc::as,F' a=none/\H a=none) ->TR K F' H' (.lst (ys.map iZ)) (.ref acc) (acc::as) ->P ys ->Q (.ref acc) H'):
  qO acc J (lE own.length caps σ) (gX K g) (tX K tc) (fX K t) Q (upd H acc (.lst [])):=by
 obtain⟨R1,e1,e2,e3,ap⟩:=uq (ds:= []) (vs:= []) R ha (by unfold ak;rfl)
 have hx1:Same Hx (upd H acc (.lst [])):=fun b u e=>by rw[bC (eO (hx b u e) ha)];exact hx b u e
 have xa:∀u,Hx acc≠some u:=fun u e=>by rw[hx acc u e] at ha;cases ha
 refine⟨fun i m vs H' =>m=ds.length - i/\i<=ds.length/\∃F' ys as,SR K F0 H0 F' H' σ Γ/\Same F F' /\Same H H' /\Same Hx H' /\H' acc=some (.lst vs)/\F' acc=none/\ (acc::as).Nodup/\ (∀a∈as,F' a=none/\H a=none)/\bB K F' H' (ys.map iZ) vs as/\vs.length<=i/\jJ (xu g tc t (gP own.length caps Γ)) (ds.drop i) (fun zs=>P (ys++zs)),
  ⟨ds.length,by simp,Nat.zero_le _,F,[],[],R1,.refl _,fun b u e=>by(rw[bC (eO e ha)];exact e),hx1,e1,e2,by simp,fun a h=>by(cases h),by unfold List.map bB;exact⟨rfl,rfl⟩,zO _,by simpa using h⟩,?_⟩
 rintro i m vs H' ⟨rfl,hi,F',ys,as,R',sF,sH,hx',ha',wM,nd,hn,rs,lv,hc⟩;have hz:=hJ.1;refine⟨ha',by omega,?_⟩
 obtain⟨hstop,hgo⟩:=hJ.2 i H' F' sF R'.g hx';have CV:acc∉as:=(List.nodup_cons.mp nd).1;by_cases hlt:i<ds.length
 ·obtain⟨go,yl⟩:=hgo ds[i] (zZ hlt);refine .inr ⟨go,by omega,fun x H2 y=> ?_⟩
  obtain⟨F2,gr,rx⟩:=yl x H2 y;rw[List.drop_eq_getElem_cons hlt] at hc;have R2:=R'.grow gr;refine⟨F2,H2,F2,gP own.length caps Γ,_,ds[i],Tw own.length caps R2,rx,hc,fun Γ3 F3 H3 σ3 R3 s3 q3=> ?_⟩;refine⟨F2,H2,F3,Γ3,_,R3,q3,fun b Γ4 F4 H4 R4 s4 q4=> ?_⟩;have jE:Gr F' H' F4 H4:=gr.trans R4.gr;have keep:∀{F5 H5},Gr F' H' F5 H5 ->∀a∈as,F5 a=none/\H a=none:=fun g5 a h=>by
   obtain⟨u,e,ld⟩:=bB.there _ _ _ rs a h;exact⟨zvf g5 (hn a h).1 e ld,(hn a h).2⟩
  cases b with
  | false=>
   rw[if_neg Bool.false_ne_true] at q4;show∃m',m' <ds.length - i/\_;refine⟨ds.length - (i+1),by omega,rfl,hlt,F4,ys,as,R'.grow jE,sF.trans jE.f,sH.trans jE.h,fun b u e=>jE.h b u (hx' b u e),jE.h _ _ ha',Gz jE wM ha',nd,keep jE,bB.move jE.f _ _ _ (fun a _ u e=>jE.h a u e) rs,by omega,?_⟩
   simpa using q4
  | true=>
   rw[if_pos rfl] at q4;show fX K t σ3 H4 _;refine⟨F2,H2,F4,Γ4,_,R4,q4,fun es Γ5 F5 H5 a us R5 s5 p1 p2 p3 rv apa q5=> ?_⟩;have nJ:Gr F' H' F5 H5:=gr.trans R5.gr;have a5:=nJ.h _ _ ha';have f5:=Gz nJ wM ha';have CW :H' a=none:=gr.h.free p3;have CZ:a≠acc:=fun z=>by rw[z,ha'] at CW;cases CW
   have NT:a∉as:=fun z=>by
    obtain⟨u,e,_⟩:=bB.there _ _ _ rs a z;rw[e] at CW;cases CW
   have a0:H a=none:=sH.free CW;refine⟨a5,ds.length - (i+1),by omega,rfl,hlt,F5,ys++ [es],as++ [a],?_,sF.trans nJ.f,fun b u e=>by(rw[bC (eO e ha)];exact nJ.h b u (sH b u e)),fun b u e=> ?_,iu,f5,?_,fun b hb=> ?_,?_,by simp;omega,?_⟩
   ·have R6:=R'.grow nJ;refine⟨⟨R6.gr.f,fun b u e=> ?_,fun b u e=> ?_,R6.gr.n⟩,R6.len,fun j sl e=> ?_,R6.ap⟩
    ·rw[bC (eO e f5)];exact R6.g b u e
    ·rw[bC (eO e e3)];exact R6.gr.h b u e
    ·obtain⟨o,p1,p2⟩:=R6.sl j sl e;refine⟨o,p1,Aw p2 (.refl _) fun c hc=>⟨(pL p2 hc).1,fun u q=> ?_⟩⟩;have:c≠acc:=fun z=>by subst z;exact ap j ⟨sl,o,e,p1,hc⟩
     rw[bC this];exact q
   ·rw[bC (fun z=>xa u (by rw[<- z];exact e))];exact nJ.h b u (hx' b u e)
   ·rw[<- List.cons_append];exact List.nodup_append.mpr ⟨nd,by simp,fun x hx y hy e=>by
     rw[List.mem_singleton.mp hy] at e;rcases zV.mp hx with z | z
     ·exact CZ (e.symm.trans z)
     ·exact NT (e ▸ z)⟩
   ·rcases zU.mp hb with hb | hb
    ·exact keep nJ b hb
    ·rw[List.mem_singleton.mp hb];exact⟨p2,a0⟩
   ·rw[List.map_append];refine M6 (bB.move nJ.f _ _ _ (fun b hb u e=> ?_) rs) (M7 ?_)
    ·rw[bC (fun z=>CV (by rw[<- z];exact hb))];exact nJ.h b u e
    ·unfold iZ TR;exact⟨a,us,[],rfl,rfl,by rw[bC CZ];exact p1,M5 rv⟩
   ·simpa [List.append_assoc] using q5
 ·obtain rfl:i=ds.length:=by omega
  refine .inl ⟨hstop rfl,fin ys F' H' as R' sF nd (fun a h=> ?_) (by unfold TR;exact⟨acc,vs,as,rfl,rfl,ha',rs⟩) ?_⟩
  ·rcases zV.mp h with rfl | h
   ·exact⟨wM,ha⟩
   ·exact hn a h
  ·rw[List.drop_length] at hc
   simpa [jJ] using hc
theorem zr5{X:Cx}{elt tg iter:Expr}{ifs:List Expr}{sc:Scope}{N' :List Str}{pos:Pos}{ti:aO}(S:dR X.N sc own caps X.env.scope N')(hc:X.calm=true)(hi:Bx X F0 H0 tg iter ti)
  (hg:∀C s₀ H₀ fp F0 H0,QG (blk X sc N' C s₀ H₀ fp) F0 H0 tg g) (ht:∀C s₀ H₀ fp F0 H0,wL (blk X sc N' C s₀ H₀ fp) F0 H0 ifs tc) (he:∀C s₀ H₀ fp F0 H0,QF (blk X sc N' C s₀ H₀ fp) F0 H0 elt t)
  (hn:own.length=n:=by rfl) (hs:∀x,foldedSetIterable iter X.env x=pure x:=by intro _;rfl):QN X F0 H0 (.ListComp elt [⟨tg,iter,ifs,0⟩] sc pos) (rR n caps ti g tc t):=by
 subst hn;rintro z E cx pins s σ H Q I ⟨F,Γ,P,R,h,k⟩;rw[show eval (.ListComp elt [⟨tg,iter,ifs,0⟩] sc pos) (X.wsh z).env=comprehension (.ListComp elt [⟨tg,iter,ifs,0⟩] sc pos) sc X.env _ (newList []) false (eval iter X.env) from eval_ListComp ..];refine Gx (X:=X.wsh z) (g:=gX X.K g) (tc:=tX X.K tc) (te:=fX X.K t) (Q:=Q) (dR.cs (X:=X.wsh z) S) (Gw hc (hi z E cx)) ?_ ?_ ?_ rfl hs I ?_ ?_
 ·rintro C s₀ H₀ fp pins s σ H v u Q I r ⟨jF,jG,q⟩;exact hg C s₀ H₀ fp jF jG ⟨fun _ _=>False,[]⟩ dX pW pins s σ H v u Q I r q
 ·rintro C s₀ H₀ fp pins s σ H Q I ⟨jF,jG,q⟩;exact ht C s₀ H₀ fp jF jG ⟨fun _ _=>False,[]⟩ dX pW pins s σ H Q I q
 ·rintro C s₀ H₀ fp pins s σ H Q I ⟨jF,jG,q⟩;exact he C s₀ H₀ fp jF jG ⟨fun _ _=>False,[]⟩ dX pW pins s σ H Q I q
 ·refine⟨F,Γ,_,R,h,fun ds Γ1 F1 H1 J Hx R1 s1 hx hJ h1 acc ha=>zm2 R1 hJ hx ha h1 fun ys F' H' as R' sF nd hn tr hp=>k _ Γ1 F' H' _ _ R' (s1.trans sF) nd (fun a h=>⟨(hn a h).1,R1.gr.h.free (hn a h).2,R1.apart (hn a h).2⟩) tr hp⟩
 ·rintro acc C H' s5 I5 q5 ⟨m,hn⟩ c1 c2 c3 c4 c5 c6;exact⟨m,hn,fun h' hs' =>⟨.ref acc,H',I5.turned (t' :=s5.toks) (it:=C) (fun b o hb e=>(hs'.2 b hb).trans e) c1 c2 (.inr c3) c4 c5,rfl,q5⟩⟩
end
def Dc(K:W.Frag)(C:Addr)(f:Str)(sp:nO):Sp:=fun vs H Q E=>∃x rest F ds Pd Ex,vs= .ref x::rest/\H x=some (XO x C none)/\Same F H/\F x=none/\ak K F ds rest/\sp ds Pd Ex/\
 (∀t as F' H3 v dx H',Gr F H F' H3 ->as.Nodup ->(∀a∈as,F' a=none/\H a=none) ->TR K F' H3 t v as ->Pd t ->H3 dx=none ->dx≠x ->H' x=some (XO x C (some dx)) ->H' dx=some (.xd [(f,v)]) ->(∀b,b≠x ->b≠dx ->H' b=H3 b) ->Q .non H')/\n8 K F H Ex E
section
variable{P:Program}{w:World}{K:W.Frag}{mg:Str ->Option Value}{base:Heap}
theorem zqm{x qual:Str}{st:Stmt}{f:Addr}{fd:FuncData}{N ps:List Str}{k:Nat}{sp:nO}{C B:Addr}{fl bn:Str}{value:Expr}{p1 p2 p3 p4 p5 p6 p7 p8 p9 p10:Pos}(Fn:fK K x qual st f fd)
  (hbd:pJ st= [.Assign [.Attribute (.Name "self" p1) fl p2] value p3,.Expr (.Call (.Attribute (.Name bn p4) "__init__" p5) [.Name "self" p6,.Attribute (.Name "self" p7) fl p8] [] p9) p10]) (S:aA N ("self" ::ps) (bF st))
  (hc:fG K C) (hB:rH K B) (hmB:mg bn=some (.ref B)) (hn:bI K C fl) (hN:N[0]?=some ("self" :Str)) (NZ:nP (bF st) "self") (len:∀ds Q E,sp ds Q E ->ds.length=ps.length)
  (hdb:(bn==("__debug__" :Str))=false)
  (hbody:∀(cdv:Value) (A:Around) (outer:List Env) (s:Shared) (H:Hp) (E:XK),bT k (A.deeper (envOfC qual (bF st) s.heap.objs.size f cdv)) ->∀F0:Hp,
   Gl (dF (cN P w) P w K mg base N qual (bF st) f cdv A outer s H E) bn/\
   swapsWith value (some (.Attribute (.Name "self" p1) fl p2)) p3.line (dF (cN P w) P w K mg base N qual (bF st) f cdv A outer s H E).env=pure false/\
   (∃pl,zri bn p4 p5 p9 [.Name "self" p6,.Attribute (.Name "self" p7) fl p8] (dF (cN P w) P w K mg base N qual (bF st) f cdv A outer s H E).env pl)/\
   ∃tn,QN (dF (cN P w) P w K mg base N qual (bF st) f cdv A outer s H E) F0 H value tn/\
    ∀a ds Q Ex,sp ds Q Ex ->tn (cO N (.ptr a::ds)) (fun t Γ' =>Γ'[0]?=some (.pu (.ptr a))/\Q t) fun _=>Ex):
  cJ P w K mg base (cN P w) (k+1) f fd ("self" ::ps) (Dc K C fl sp):=by
 obtain⟨oc,od,kV,doc,pm,an,cdv,ct,osl,rfl,lk,hcd⟩:=Fn.ex;refine Fd lk hcd S (fun vs H Q E ⟨x,rest,F,ds,Pd,Ex,e,_,_,_,rs,hs,_⟩=>by rw[e,List.length_cons,List.length_cons,<- fY rs,len _ _ _ hs]) fun A outer s H vs Q E hr ⟨a,rest,F0,ds,Pd,Ex,ev,hx,sF,fx,rs,hsp,hQ,hE⟩=> ?_
 subst ev;obtain⟨hgB,hsw,⟨pl,hpl⟩,tn,hte,hq⟩:=hbody cdv A outer s H E hr F0;have cx:Ctx ((dF (cN P w) P w K mg base N qual (bF st) f cdv A outer s H E).wsh ⟨(dF (cN P w) P w K mg base N qual (bF st) f cdv A outer s H E).xe,[]⟩) F0 H (fun _=>Ex):=by
  refine⟨fun pins σ Γ F H1 s1 e s' I R hx=> ?_,PassesOwn.leaving⟩;refine aY (Fp (E:=fun C dx H' =>E C dx H') I rfl rfl rfl (hx.imp fun C dx H' z=> ?_)) fun _ s'' z=>z;obtain⟨Γ',F',x,R',_,xr,_,z1⟩:=z;exact hE x C dx F' H' z1 R'.gr (xr.back R.gr.h)
 rw[hbd];have rW:∀q,PE (dF (cN P w) P w K mg base N qual (bF st) f cdv A outer s H E) (.Name "self" q) (vP 0):=fun q=>tG (i:=0) hN NZ;refine⟨_,Qs (zut hc hn (rW p1) (hte _ _ cx) hsw) (Qt (Il (zsr hc hB hgB hmB (uf (rW p6) (uf (zvp hc hn (rW p7) rfl) yq)) hdb rfl rfl hpl))),?_⟩;refine⟨F0,cO N (.ptr a::ds),_,FT sF (pq (by unfold Rep;rfl) rs),hq a ds Pd Ex hsp,fun t Γ1 F1 H1 v as R1 s1 nd hn tr hp=> ?_⟩
 obtain⟨h0,hp⟩:=hp;obtain⟨o,eo,ro⟩:=R1.sl 0 _ h0;obtain⟨u,rfl,ru⟩:=ro;unfold Rep at ru;subst ru;refine⟨.ref a,eo,a,rfl,R1.gr.h _ _ hx,fun dx n1 n2=> ?_⟩;refine⟨.ref a,eo,.ref a,eo,a,dx,_,v,rfl,by rw[bC (Ne.symm n2),iu],iu,by simp [List.lookup],?_⟩
 refine⟨a,some dx,v,rfl,by rw[bC (Ne.symm n2),iu],?_⟩
 refine hQ t as F1 H1 v dx _ R1.gr nd (fun b hb=>⟨(hn b hb).1,(hn b hb).2.1⟩) tr hp n1 n2 iu (by rw[bC n2,iu]) fun b q1 q2=>by rw[bC q1,bC q2,bC q1]
end
def N5(C:Addr)(fl:Str)(sp:nO)(t:aO):aq:=fun _ Γ E=>t Γ (fun ds Γ1=>ds.length<=sizeLine/\sp ds (fun tr=>E Γ1 (.pay C [fl] [tr])) fun Cx=>E Γ1 Cx) E
section
variable{X:Cx}{F0 H0:Hp}{e:Expr}{es:List Expr}{pos np cpos:Pos}{t:aO}{x fl:Str}{C f:Addr}{fd:FuncData}{ps:List Str}{k:Nat}{sp:nO}
theorem zna(hh:X.calm=true)(hg:Gl X x)(hm:X.mg x=some (.ref C))(hC:fG X.K C)(hi:W.findIn X.K (.ref C) "__init__" =some (some (.ref f)))(hf:W.isFn X.K (.ref f)=true)
  (Fn:cJ X.prog X.w X.K X.mg X.base (cN X.prog X.w) k f fd ps (Dc X.K C fl sp)) (hr:bT (k+1) X.A) (hb:Binds X.K fd ps []) (ha:QA X F0 H0 (e::es) t)
  (hd:(x==("__debug__" :Str))=false:=by decide) (he:starEach (e::es) X.env=(false,eval e X.env)::starEach es X.env:=by rfl) (hpl:(backTo cpos (starEach es X.env)).any (·.1)=false:=by rfl):
  QS X F0 H0 (.Raise (some (.Call (.Name x np) (e::es) [] cpos)) none pos) (N5 C fl sp t):=by
 rintro z E cx pins s σ H D I ⟨F,Γ,D2,R,h,k'⟩;refine zo2 (K:=X.K) (C:=C) (f:=f) hC.cls (I.ok.hd hh) ?_ hi (beq_iff_eq.mp hf) (yh (X:=X.wsh z) I hg hm ⟨rfl,?_⟩ hd)
 ·rw[he];show(false || (backTo cpos (starEach es X.env)).any (·.1))=false
  rw[hpl];rfl
 ·have key:=ha z E cx cpos pins s σ H (fun vs H1=>∃F1 Γ1 ds,SR X.K F0 H0 F1 H1 σ Γ1/\ak X.K F1 ds vs/\ds.length<=sizeLine/\sp ds (fun tr=>E Γ1 (.pay C [fl] [tr])) fun Cx=>E Γ1 Cx) I ⟨F,Γ,_,R,h,fun ds Γ1 F1 H1 vs R1 s1 r1 h1=>⟨F1,Γ1,ds,R1,r1,h1⟩⟩;rw[he] at key⊢;refine Calls.evalArgs_plain (wpAny_mono key (fun us s2 ⟨vs,H1,I1,r,F1,Γ1,ds,R1,rs,hlen,q⟩=>⟨rfl,by show us.length<=sizeLine;rw[<- r.length,<- fY rs];exact hlen,I1.kIn,?_⟩) fun _ _ y=>y)
  show wpAny (model X.prog X.w) _ (call (.ref f) (Value.ref (s2.heap.objs.size+1)::us)) _ _ _;have ge:((s2.heap.push {cls:= .type "tuple",data:= .seq us.toArray}).push {cls:= .ref C,data:= .fields #[.ref s2.heap.objs.size,.none,.none,.none,.bool false,.none]}).get? (s2.heap.objs.size+1)=some ⟨.ref C,none,.fields #[.ref s2.heap.objs.size,.none,.none,.none,.bool false,.none],#[]⟩:=by
   have:=z9 (s2.heap.push {cls:= .type "tuple",data:= .seq us.toArray}) (o:={cls:= .ref C,data:= .fields #[.ref s2.heap.objs.size,.none,.none,.none,.bool false,.none]}) rfl;rw[Heap.size_push] at this;exact this
  have kp:∀b o,s2.heap.get? b=some o ->((s2.heap.push {cls:= .type "tuple",data:= .seq us.toArray}).push {cls:= .ref C,data:= .fields #[.ref s2.heap.objs.size,.none,.none,.none,.bool false,.none]}).get? b=some o:=fun b o e=>z8 _ (z8 _ e);generalize hh2:(s2.heap.push {cls:= .type "tuple",data:= .seq us.toArray}).push {cls:= .ref C,data:= .fields #[.ref s2.heap.objs.size,.none,.none,.none,.bool false,.none]}=h2 at ge kp⊢;have n1:H1 (s2.heap.objs.size+1)=none:=I1.hok.fresh (Nat.le_succ _);generalize hea:s2.heap.objs.size+1=a at ge n1⊢;have hle:s2.heap.objs.size<=a:=by omega
  have I2:Inv (X.wsh z) pins σ (upd H1 a (XO a C none)) {s2 with heap:=h2,toks:=s2.toks}:=I1.laid kp hle (M4 ge);have sH:Same H1 (upd H1 a (XO a C none)):=fun b o e=>by rw[bC (eO e n1)];exact e
  have f1:F1 a=none:=by
   cases q:F1 a with
   | none=>rfl
   | some o=>rw[R1.g _ _ q] at n1;cases n1
  have u1:Un (frs X.stack) [] H1 (upd H1 a (XO a C none)) s2.heap h2:=Un.laid kp hle n1;have hs:Dc X.K C fl sp (.ref a::vs) (upd H1 a (XO a C none)) (fun v H' =>v= .non/\Same H1 H' /\∃p u F' as tr,H' a=some (XO a C (some p))/\H' p=some (.xd [(fl,u)])/\p≠a/\H1 p=none/\F' p=none/\F' a=none/\Same F1 F' /\Same F' H' /\ (∀b o,F' b=some o ->F1 b=none ->lD H1 b o)/\as.Nodup/\ (∀b∈as,F' b=none/\H1 b=none)/\a∉as/\TR X.K F' H' tr u as/\E Γ1 (.pay C [fl] [tr])) (fun C' Ad H' =>∃x F',E Γ1 x/\Gr F1 H1 F' H' /\qG X.K F' H1 H' C' Ad x):=by
   refine⟨a,vs,F1,ds,_,_,rfl,iu,R1.g.trans sH,f1,rs,q,?_,fun x C' Ad F' H' hE gr xr=>⟨x,F',hE,gr.low sH,xr.back sH⟩⟩;intro t as F' H3 v dx H' gr nd hn tr hp n3 n4 e1 e2 e3;have fa:F' a=none:=by
    cases q:F' a with
    | none=>rfl
    | some o=>
     rcases gr.n a o q f1 with z | ⟨⟨xs,e'⟩,z⟩
     ·rw[iu] at z;cases z
     ·rw[iu] at z;cases z;cases e'
   have xG:∀b∈as,b≠a/\b≠dx/\H1 b=none:=fun b hb=>by
    have h0:=(hn b hb).2;have ba:b≠a:=fun z=>by rw[z,iu] at h0;cases h0
    rw[bC ba] at h0;obtain⟨u,e,_⟩:=TR.there _ _ _ tr b hb;exact⟨ba,eO e n3,h0⟩
   have rY:∀b o,b≠a ->H3 b=some o ->H' b=some o:=fun b o ba e=>by rw[e3 b ba (eO e n3)];exact e
   refine⟨rfl,fun b o eb=>rY b o (eO eb n1) (gr.h _ _ (sH _ _ eb)),dx,v,F',as,t,e1,e2,n4,(sH.trans gr.h).free n3,gr.g.free n3,fa,gr.f,fun b o e=>rY b o (eO e fa) (gr.g b o e),fun b o e n=>lD.back sH (gr.n b o e n),nd,fun b hb=>⟨(hn b hb).1,(xG b hb).2.2⟩,fun hb=>(xG a hb).1 rfl,TR.move (.refl _) t v as (fun b hb u e=>rY b u (xG b hb).1 e) tr,hp⟩
  have hl:(Value.ref a::us).length=ps.length:=by
   have e:=Fn.len _ _ _ _ hs;rw[List.length_cons,<- r.length,<- List.length_cons (a:=V.ref a),e]
  have hbs:=hb {s2 with heap:=h2} (Value.ref a::us) I2.kIn (by rw[List.append_nil];exact hl)
  rw[List.append_nil] at hbs;refine wpAny_call (codeAny_mono (Fn.run _ X.stack _ _ ⟨Value.ref a::us,[]⟩ (Value.ref a::us) _ _ _ (hr.make C us []) (I2.env0.make C us []) hbs (.cons (show RelV (.ref a) (Value.ref a) from rfl) r) hs) fun r' s' hq' => ?_);cases r' with
  | error e' =>exact cx.px pins σ Γ1 F1 H1 s2 e' s' I1 R1 (znq hq' rfl u1 kp)
  | ok fl' =>
   cases fl' with
   | ret u=>
    obtain⟨v,H',os,bare,un,hok,rv,ev,sS,p,pu,F',as,tr,ea,ep,pa,p1,fp,fa,sF,sFH,nT,nd,oL,NT,rG,hE⟩:=hq';subst ev;refine⟨rv,?_⟩;have I3:Inv (X.wsh z) pins σ H' s' :=I2.call' (s' :=s') os un hok bare (fun b z=>absurd z (by simp))
    obtain⟨t0,gx⟩:=Hh hok ea;refine⟨_,t0,I3.kIn,gx,rfl,rfl,?_⟩;have vI:=u1.trans un;have nH:∀b u,(fun b=>if b=a then none else H' b) b=some u ->b≠a/\H' b=some u:=fun b u eb=>by
     by_cases hb:b=a
     ·simp [hb] at eb
     ·exact⟨hb,by simpa [hb] using eb⟩
    have yH:∀b u,b≠a ->H' b=some u ->(fun b=>if b=a then none else H' b) b=some u:=fun b u hb eb=>by simp [hb,eb]
    have nfr:∀b u,H' b=some u ->b∉frs X.stack:=fun b u eb hm=>by
     have:=I3.stkFree b hm;rw[eb] at this;cases this
    refine cx.px pins σ Γ1 F1 H1 s2 (.ref a) s' I1 R1 ⟨a,.ref C,(fun b=>if b=a then none else H' b),W.hideAll s'.heap (a::frs X.stack),some p,rfl,os,bare,?_,?_,?_,?_,?_,.pay C [fl] [tr],F',hE,⟨sF,?_,?_,nT⟩,rfl,p,[pu],as,rfl,yH p _ pa ep,rfl,fp,p1,nd,oL,M7 (TR.move (.refl _) tr pu as (fun b hb u e=>yH b u (fun z=>NT (z ▸ hb)) e) rG)⟩
    ·refine⟨vI.keep,vI.slot,fun b o eb n hx=> ?_,vI.there,fun b xs eb=> ?_,fun b o u eb=> ?_,fun b ps eb=> ?_⟩
     ·have:=vI.free b o eb n hx;simp [this]
     ·exact yH b _ (eO eb n1) (vI.tups b xs eb)
     ·exact yH b _ (eO eb n1) (vI.fW b o u eb)
     ·obtain⟨more,q⟩:=vI.gG b ps eb;exact⟨more,yH b _ (eO eb n1) q⟩
    ·intro b u eb;obtain⟨hb,eb⟩:=nH b u eb;refine(hok b u eb).stay (fun _ _ _ q=>q) (fun c q=>yH c _ (fun hc=> ?_) q) fun c xs q=>yH c _ (fun hc=> ?_) q
     ·rw[hc,ea] at q;cases q
     ·rw[hc,ea] at q;cases q
    ·refine⟨fun b o q=>W.of_hideAll _ q,zk3 _ zY,?_,_,.inr rfl,.inr ⟨_,_,gx,rfl,rfl,rfl,rfl,rfl⟩⟩;exact W.funFrames_hide (as:=a::frs X.stack) I3.stack fun env he b hb=>zX _ (List.mem_filterMap.mpr ⟨env,he,hb⟩)
    ·intro b o eb n;obtain⟨o',e'⟩:=vI.there b o eb (by simp)
     refine⟨o',W.hideAll_get _ e' fun hm=> ?_⟩;rcases zV.mp hm with rfl | hm
     ·exact absurd (zK eb) (Nat.not_lt.mpr hle)
     ·exact n hm
    ·intro b u eb;obtain⟨hb,eb⟩:=nH b u eb;obtain⟨o,eo⟩:=zn5 (hok b u eb);refine⟨o,W.hideAll_get _ eo fun hm=> ?_⟩;rcases zV.mp hm with hm | hm
     ·exact hb hm
     ·exact nfr b u eb hm
    ·exact fun b u eb=>yH b u (eO eb fa) (sFH b u eb)
    ·exact fun b u eb=>yH b u (eO eb n1) (sS b u eb)
   | next=>exact False.elim hq'
   | brk=>exact False.elim hq'
   | cont=>exact False.elim hq'
structure xH (P:Program) (w:World) (K:W.Frag) (mg:Str ->Option Value) (base:Heap) (x:Str) (C:Addr) (fl:Str) (k:Nat) (ps:List Str) (sp:nO):Prop where
 ex:∃f fd,cJ P w K mg base (cN P w) k f fd ps (Dc K C fl sp)/\W.findIn K (.ref C) "__init__" =some (some (.ref f))/\W.isFn K (.ref f)=true/\fG K C/\mg x=some (.ref C)/\Binds K fd ps []
theorem zpw(hh:X.calm=true)(G:xH X.prog X.w X.K X.mg X.base x C fl k ps sp)(hr:bT (k+1) X.A)(hg:Gl X x)(ha:QA X F0 H0 (e::es) t)
  (hd:(x==("__debug__" :Str))=false:=by decide) (he:starEach (e::es) X.env=(false,eval e X.env)::starEach es X.env:=by rfl) (hpl:(backTo cpos (starEach es X.env)).any (·.1)=false:=by rfl):
  QS X F0 H0 (.Raise (some (.Call (.Name x np) (e::es) [] cpos)) none pos) (N5 C fl sp t):=by
 obtain⟨f,fd,h1,h2,h3,h4,h5,h6⟩:=G.ex;exact zna hh hg h5 h4 h2 h3 h1 hr h6 ha hd he hpl
end
def vJ(K:W.Frag)(Cd:Addr)(i:Nat)(tb th:aq):aq:=fun D Γ _=>tb D Γ fun Γ1 Cv=>∃C fs ts,Cv= .pay C fs ts/\jA K C/\cZ K C Cd=true/\∀as,
 th {nx:=fun Γ' =>D.nx (Γ'.set i .no),rt:=D.rt,bk:=fun Γ' =>D.bk (Γ'.set i .no),ct:=fun Γ' =>D.ct (Γ'.set i .no)} (Γ1.set i (.xe as C fs ts)) dX
section
variable{X:Cx}{F0 H0:Hp}{pos np hp:Pos}{x n:Str}{Cd:Addr}{body suite:List Stmt}{b₀:Stmt}{tb th:aq}{i:Nat}
theorem zvc(hex:X.ex= [])(hst:X.stack=X.env::X.outer)(hfr:X.env.frame=some X.env.locals)(hN:X.N.Nodup)(hi:X.N[i]?=some n)(hl:X.env.scope.names.lookup n=some .local)(hg:Gl X x)(hm:X.mg x=some (.ref Cd))(hC:jA X.K Cd)(hb:∀F,lY X F H0 body tb)
  (hh:∀a F,wg F a ->lY (X.hand a) F H0 (b₀::suite) th) (hd:(x==("__debug__" :Str))=false:=by decide):QS X F0 H0 (.Try body [.ExceptHandler (some (.Name x np)) (some n) (b₀::suite) hp] [] [] pos) (vJ X.K Cd i tb th):=by
 rintro z E cx pins s σ H D I ⟨F,Γ,D2,R,h,k⟩;refine wpAny_Try_except ?_;have key:=hb F ⟨fun e s₁=>wpAny (model X.prog X.w) X.A (noteFrame e X.env) (fun _ s₂=>wpAny (model X.prog X.w) X.A (setFlight e none) (fun _ s₃=>wpAny (model X.prog X.w) X.A (handleBy e X.env [.ExceptHandler (some (.Name x np)) (some n) (b₀::suite) hp]) (SP (X.wsh z) pins D) z.xe s₃) z.xe s₂) z.xe s₁,z.pn++pins⟩
  (fun Γ1 Cv=>∃C fs ts,Cv= .pay C fs ts/\jA X.K C/\cZ X.K C Cd=true/\∀as,th {nx:=fun Γ' =>D2.nx (Γ'.set i .no),rt:=D2.rt,bk:=fun Γ' =>D2.bk (Γ'.set i .no),ct:=fun Γ' =>D2.ct (Γ'.set i .no)} (Γ1.set i (.xe as C fs ts)) dX) ⟨?px,PassesOwn.looking⟩ [] s σ H D (zwk I) ⟨F,Γ,D2,R.base,h,k.base R.gr⟩
 ·refine wpAny_mono key (fun f s1 q=> ?_) fun _ _ q=>q;have q' :=zyt q;cases f with
  | next=>exact wpAny_execs_nil q'
  | ret v=>exact q'
  | brk=>exact q'
  | cont=>exact q'
 ·intro je σ1 Γ1 F1 H1 s1 e s' I' R1 hx;have I1:Inv (X.wsh z) pins σ1 H1 s1:=Bp I';obtain⟨a,Cv,H',B,dx,rfl,os,bare,un,hok,wj,inB,nF,Γ2,F2,xv,R2,sF2,xr,apx,⟨C,fs,us,rfl,Wi,hsub,hth⟩⟩:=hx;have N6:Cv= .ref C:=xr.1;subst N6;obtain⟨p,ws,as,rfl,ep,el,fp,hp1,ndx,oL,rG⟩:=xr.2;have ap:∀b,H1 b=none ->Apart σ1 Γ2 b:=apx.resolve_left fun e=>by(cases e)
  show wpAny (model X.prog X.w) X.A (noteFrame (.ref a) X.env) _ _ _;refine RM (env:=X.env) (outer:=X.outer) (I1.ok.frames.trans (congrArg some hst)) hfr (by rw[<- hst];exact wj) fun h4 a0 hdd held N7=> ?_
  obtain rfl:a0=some p:=by
   rcases hdd with z | z
   ·cases z
   ·exact z.symm
  refine qC (s:={s' with heap:=h4}) held fun h5 fl N8=> ?_;have I5:Inv (X.wsh z) pins σ1 H' {s' with heap:=h5}:=Inv.landed (t' :=s'.toks) I1 hex os bare un hok wj.1 fl.1 inB nF (N7.trans N8);obtain⟨ob,hob,hobc⟩:=fl.there;refine wpAny_handleBy_cons (codeAny_handlers_test (yh (X:=(X.wsh z).hand a) (S9 I5 a) hg hm ?_ hd)) (by intro q;cases q)
  obtain⟨bm,N,nm,qn,bs,hdct,sn,sub,ab,col,dd,k0,k1,k2,k3,k5,e1,_,_,_⟩:=u9 I5.kIn Wi;obtain⟨bm',N',nm',qn',bs',vh,S6,sub',S7,col',S8,j0,j1,j2,j3,j5,e2,tl,_,_⟩:=u9 I5.kIn hC;refine zk4 e1 e2 hob hobc (tl.hasType PySem.F.excBase_ValueError.hasBase) ?_;rw[zrb I5.kIn Wi Cd e1,hsub];refine codeAny_handlers_suite_as (qC (s:={s' with heap:=h5}) fl fun h6 Oa Wj=> ?_);have I6:Inv (X.wsh z) pins σ1 H' {s' with heap:=h6}:=Inv.landed (t' :=s'.toks) I1 hex os bare un hok wj.1 Oa.1 inB nF ((N7.trans N8).trans Wj);obtain⟨oe,vs,T,oT,ts,g1,⟨g2,gd,g4⟩,g3,_⟩:=Oa.2.2.2;have nB:B.get? a=none:=Oa.2.1;have nH:H' a=none:=by
   cases q:H' a with
   | none=>rfl
   | some u=>obtain⟨o',e'⟩:=nF a u q;rw[nB] at e';cases e'
  have Wk:a∉frs X.stack:=fun hm=>by
   obtain⟨_,o2,e2,nf⟩:=I1.stack.mem hm;obtain⟨sl,e3⟩:=un.any e2 (I1.stkFree a hm) (by simp)
   obtain⟨sl',e4⟩:=((N7.trans N8).trans Wj) a _ e3 nf;rw[g1] at e4;cases e4;exact nf _ g3
  have gone:∀o,s1.heap.get? a=some o ->False:=fun o e=>by
   obtain⟨o',e'⟩:=inB a o e Wk;rw[nB] at e';cases e'
  have rZ:s1.heap.get? a=none:=by
   cases q:s1.heap.get? a with
   | none=>rfl
   | some o=>exact(gone o q).elim
  have Dd:X.s₀.heap.get? a=none:=by
   cases q:X.s₀.heap.get? a with
   | none=>rfl
   | some o=>
    obtain⟨o',e'⟩:=I1.base.there a o q (by show a∉X.ex;rw[hex];simp)
    rw[rZ] at e';cases e'
  have Ob:a≠X.env.locals:=fun z=>Wk (by rw[hst];unfold frs;rw[List.filterMap_cons,hfr,z];exact zY)
  have Df:∀x c,X.env.cells.lookup x=some c ->c≠a:=fun x c e z=>by
   obtain⟨v,o,ho,_⟩:=I1.cell x c e;rw[z,rZ] at ho;cases ho
  have Oc:∀p∈z.pn++pins,p.1≠a:=fun p hp z=>by
   have ho:=(I1.pin p hp).1;rw[z,rZ] at ho;cases ho
  have IT:Inv (X.wsh z) pins σ1 (L2.upd H' a (.frz oe (eE a C))) {s' with heap:=h6}:=Inv.track I6 nH ⟨g1,⟨oe,vs,g1,g2,g3,g4⟩,⟨oe,g1⟩,fun h1 h2 hq1 st=>by obtain⟨o,ws,p1,p2,p3,p4⟩:=hq1;exact⟨o,ws,st o p1,p2,p3,p4⟩⟩ Dd Ob Df Oc
  have jE:Gr F2 H' (L2.upd F2 a (.frz oe (eE a C))) (L2.upd H' a (.frz oe (eE a C))):=Gr.laid R2.g nH;have IH:Inv ((X.wsh ⟨fun _ _=>False,z.pn⟩).hand a) pins σ1 (L2.upd H' a (.frz oe (eE a C))) {s' with heap:=h6}:=S9 (X:=X.wsh ⟨fun _ _=>False,z.pn⟩) ⟨Ky IT.ok _,IT.os,IT.bare,IT.base,IT.loc,IT.cell,IT.free,IT.freeC,IT.pin,IT.hok,IT.len⟩ a;have pa:p≠a:=fun z=>by rw[z,nH] at ep;cases ep
  have Od:L2.upd (L2.upd F2 a (.frz oe (eE a C))) p (.xd (fs.zip ws)) a=some (.frz oe (eE a C)):=by rw[bC (Ne.symm pa),iu]
  have Wl:L2.upd (L2.upd F2 a (.frz oe (eE a C))) p (.xd (fs.zip ws)) p=some (.xd (fs.zip ws)):=iu;have s3:Same (L2.upd F2 a (.frz oe (eE a C))) (L2.upd (L2.upd F2 a (.frz oe (eE a C))) p (.xd (fs.zip ws))):=fun b u e=>by
   rw[bC (fun z=>by rw[z,bC pa,fp] at e;cases e)];exact e
  have out:∀b,b≠a ->b≠p ->L2.upd (L2.upd F2 a (.frz oe (eE a C))) p (.xd (fs.zip ws)) b=F2 b:=fun b h1 h2=>by rw[bC h2,bC h1]
  have R3:=(R2.grow jE).frzM (F' :=L2.upd (L2.upd F2 a (.frz oe (eE a C))) p (.xd (fs.zip ws))) s3 (fun b u e=>by
   by_cases hb:b=p
   ·subst hb;rw[iu] at e;cases e;rw[bC pa];exact ep
   ·rw[bC hb] at e;exact jE.g b u e) (fun b u e n=>by
   obtain rfl:b=p:=by
    by_cases hb:b=p
    ·exact hb
    ·rw[bC hb,n] at e;cases e
   exact⟨R1.gr.h.free hp1,ap b hp1⟩)
  generalize L2.upd (L2.upd F2 a (.frz oe (eE a C))) p (.xd (fs.zip ws))=F3 at Od Wl s3 out R3;have xG:∀b∈as,b≠a/\b≠p:=fun b hb=>by
   obtain⟨u,q,ld⟩:=bB.there us ws as rG b hb;refine⟨fun z=> ?_,fun z=> ?_⟩
   ·rw[z,nH] at q;cases q
   ·rw[z,ep] at q;cases q;rcases ld with ⟨_,z⟩ | ⟨_,z⟩ | ⟨_,z⟩ | ⟨_,_,_,z,_⟩ | ⟨_,z⟩<;>cases z
  have R7:=R3.put i (s:= .xe as C fs us) (o:=some (.ref a)) ⟨a,oe,p,ws,rfl,Od,gd,Wl,el,ndx,fun b hb=>⟨by rw[out b (xG b hb).1 (xG b hb).2];exact(oL b hb).1,R1.gr.h.free (oL b hb).2⟩,bB.move (jE.f.trans s3) us ws as (fun b hb u e=>by rw[bC (xG b hb).1];exact e) rG⟩ fun b hb=>ap b (oL b hb).2
  refine yg (X:=(X.wsh ⟨fun _ _=>False,z.pn⟩).hand a) IH hN hi (.inl hl) (show RelV (.ref a) (.ref a) from rfl) (fun s7 I7=> ?_) (.inr hl)
  
  have fin:∀{σ2:St} {H2:Hp} {s2:Shared} {Q2:Shared ->Prop},Inv (X.wsh z) pins σ2 H2 s2 ->σ2.length=X.N.length ->(∀s3,Inv (X.wsh z) pins (σ2.set i none) H2 s3 ->Q2 s3) ->wpAny (model X.prog X.w) X.A (do bindName X.env n .none;unbindBehindTheSuite X.env n hp) (fun _ s3=>Q2 s3) z.xe s2:=by
   intro σ2 H2 s2 Q2 I2 hlen hQ;refine z6 (wpAny_bindName (yg (X:=X.wsh z) I2 hN hi (.inl hl) (show RelV .non Value.none from rfl) (fun s3 I3=> ?_) (.inr hl)));unfold unbindBehindTheSuite;refine wpAny_onRaise (zon (X:=X.wsh z) I3 hN hi hl (v:= .non) ?_ fun s4 I4=> ?_)
   ·rw[List.getElem?_set_self (by rw[hlen];exact(List.getElem?_eq_some_iff.mp hi).1)]
   ·rw[List.set_set] at I4;exact hQ s4 I4
  have kb:=(k.base R.gr).mono R2.gr.f;have kh:j8 X.K F H0 F3 {nx:=fun Γ' =>D2.nx (Γ'.set i .no),rt:=D2.rt,bk:=fun Γ' =>D2.bk (Γ'.set i .no),ct:=fun Γ' =>D2.ct (Γ'.set i .no)} {nx:=fun σ H=>D.nx (σ.set i none) H,rt:=D.rt,bk:=fun σ H=>D.bk (σ.set i none) H,ct:=fun σ H=>D.ct (σ.set i none) H}:=
   ⟨fun Γ' F' H' σ' R' s h=>kb.nx _ _ _ _ (R'.drop i none) ((jE.f.trans s3).trans s) h,fun Γ' F' H' σ' R' s h=>kb.bk _ _ _ _ (R'.drop i none) ((jE.f.trans s3).trans s) h,fun Γ' F' H' σ' R' s h=>kb.ct _ _ _ _ (R'.drop i none) ((jE.f.trans s3).trans s) h,kb.rt,fun _ _ _ _ _ _ q=>q.elim,fun _ _ _ _ _ _ _ _ _ q=>q.elim,fun _ _ _ _ _ _ _ _ q=>q.elim⟩
  have run:=hh a F3 ⟨oe,C,Od⟩ ⟨fun _ _=>False,z.pn⟩ dX pW pins s7 (σ1.set i (some (.ref a))) (L2.upd H' a (.frz oe (eE a C))) {nx:=fun σ H=>D.nx (σ.set i none) H,rt:=D.rt,bk:=fun σ H=>D.bk (σ.set i none) H,ct:=fun σ H=>D.ct (σ.set i none) H} I7
   ⟨_,_,_,R7.base,hth as,kh.base R7.gr⟩
  refine wpAny_mono run (fun f s2 q=> ?_) fun _ _ q=>q.elim;have q' :=zqz I1.ok q;cases f with
  | next=>obtain⟨σ',H',I2,q⟩:=q';exact fin I2 I2.len fun s3 I3=>⟨_,_,I3,q⟩
  | brk=>obtain⟨σ',H',I2,q⟩:=q';exact fin I2 I2.len fun s3 I3=>⟨_,_,I3,q⟩
  | cont=>obtain⟨σ',H',I2,q⟩:=q';exact fin I2 I2.len fun s3 I3=>⟨_,_,I3,q⟩
  | ret u=>obtain⟨v,σ',H',I2,r,q⟩:=q';exact fin I2 I2.len fun s3 I3=>⟨v,_,_,I3,r,q⟩
end
section
variable{X:Cx}{pins:aV}{σ:St}{H:Hp}{s:Shared}{A:Around}{E:bf}{a C dx:Addr}{f:Str}{y v:V}{u:Value}{fs:List (Str×V)}{oe:Obj}
theorem zsf(I:Inv X pins σ H s)(e:H a=some (.frz oe (eE a C)))(eo:oe.dict=some dx)(ed:H dx=some (.xd fs))(c:fG X.K C)(n:bI X.K C f)(l:fs.lookup f=some v)
  (h:∀u s',Inv X pins σ H s' ->RelV v u ->Q u s'):wpAny (model X.prog X.w) A (getAttr (.ref a) f b) Q E s:=by
 obtain⟨hx,⟨o,vs,ho,hc,hd,_⟩,_⟩:=(show aX X.prog X.w H s.heap a (.frz oe (eE a C)) from I.hok a _ e);rw[hx] at ho;cases ho;obtain⟨mA,ns,r⟩:=I.hok dx _ ed;obtain⟨u,hu,ru⟩:=lW.some_of (v:=v) (o:=mA f) (by rw[<- l];exact r f)
 obtain⟨hp,g,d,tk,os⟩:=s;exact Vk I.kIn c n hx hc (by unfold W.notCls;rw[hd]) eo ns hu (QZ ru) (h u _ (I.tok _) ru)
def xJ(C:Addr)(f:Str)(ta:TE):TE:=fun σ H Q=>ta σ H fun x H1=>∃a oe dx fs v,x= .ref a/\H1 a=some (.frz oe (eE a C))/\oe.dict=some dx/\H1 dx=some (.xd fs)/\fs.lookup f=some v/\Q v H1
theorem zrl{e:Expr}{pos:Pos}{ta:TE}(c:fG X.K C)(n:bI X.K C f)(he:PE X e ta)(hb:attributeBase e f X.env (eval e X.env)=eval e X.env):PE X (.Attribute e f pos) (xJ C f ta):=by
 intro pins s σ H Q I h;refine Q0 hb (aY (he pins s σ H _ I h) fun u s1 hq1=> ?_);obtain⟨x,H1,I1,rx,a,oe,dx,fs,v,ex,ea,eo,ed,l,q⟩:=hq1;subst ex;obtain rfl:u=Value.ref a:=rx;exact zsf I1 ea eo ed c n l fun u' s2 I2 ru=>⟨v,H1,I2,ru,q⟩
end
def vK(C:Addr)(fl c:Str)(e y:Nat):aq:=fun D Γ _=>∃as t,Γ[e]?=some (.xe as C [fl] [t])/\D.nx ((Γ.set e (.pu (.exc C))).set y (.nt as c t))
def oG(i:Nat):aq:=fun D Γ _=>match Γ[i]? with
 | some (.pu d)=>D.rt d
 | some (.nt _ c t)=>D.rT (.tp c t)
 | _=>False
inductive RN where
 | pl (d:D) | nt (c:Str) (t:T)
abbrev xK:=List D ->(RN ->Prop) ->(XV ->Prop) ->Prop
def tpT(Q:RN ->Prop):TW ->Prop
 | .one _=>False
 | .tp c t=>Q (.nt c t)
abbrev xM(Q:RN ->Prop):iT:={nx:=fun _=>Q (.pl .non),rt:=fun d=>Q (.pl d),rT:=tpT Q}
def su(K:W.Frag)(sp:xK):Sp:=fun vs H Q E=>∃F ds P Ex,Same F H/\ak K F ds vs/\sp ds P Ex/\ (∀d v F' H',Gr F H F' H' ->Rep K F' d v ->P (.pl d) ->Q v H')/\
 (∀c t p v as F' H',Gr F H F' H' ->F' p=some (.tup [.str c,v]) ->as.Nodup ->(∀a∈as,F' a=none/\H a=none) ->TR K F' H' t v as ->P (.nt c t) ->Q (.ref p) H')/\n8 K F H Ex E
structure xO (P:Program) (w:World) (K:W.Frag) (mg:Str ->Option Value) (base:Heap) (x:Str) (k:Nat) (ps:List Str) (sp:xK):Prop where
 ex:∃f fd,cJ P w K mg base (cN P w) k f fd ps (su K sp)/\mg x=some (.ref f)/\W.keepIn K (.ref f)=true/\Binds K fd ps []
section
variable{X:Cx}{F0 H0:Hp}{pos pos' py ep ap tp:Pos}{x y fl c:Str}{C:Addr}{i j k:Nat}{e:Expr}{es:List Expr}{te:aB}{t:aO}{sp:xK}{ps:List Str}
theorem zu7{x1 j1 cp}(hc:fG X.K C)(hn:bI X.K C fl)(hN:X.N.Nodup)(hi:X.N[i]?=some x)(hv:nP X.env.scope x)(hj:X.N[j]?=some y)(hy:Loc X.env.scope y)(hd:(x==("__debug__" :Str))=false:=by decide)(hcd:(x==("__classdict__" :Str))=false:=by decide)
  (hb:attributeBase (.Name x ep) fl X.env (eval (.Name x ep) X.env)=eval (.Name x ep) X.env:=by rfl)
  (h1:starEach [.Constant (.str c) j1 cp,.Attribute (.Name x ep) fl ap] X.env=(false,eval (.Constant (.str c) j1 cp) X.env)::starEach [.Attribute (.Name x ep) fl ap] X.env:=by rfl) (h2:starEach [.Attribute (.Name x ep) fl ap] X.env=(false,eval (.Attribute (.Name x ep) fl ap) X.env)::starEach [] X.env:=by rfl)
  (hs:swapsWith (.Tuple [.Constant (.str c) j1 cp,.Attribute (.Name x ep) fl ap] x1 tp) (some (.Name y py)) pos.line X.env=pure false:=by rfl)
  (hf:X.fn y=true\/X.env.scope.names.lookup y=some .local:=by first | exact .inl rfl | exact .inr rfl):
  QS X F0 H0 (.Assign [.Name y py] (.Tuple [.Constant (.str c) j1 cp,.Attribute (.Name x ep) fl ap] x1 tp) pos) (vK C fl c i j):=fun z E cx=>
 j9 (yj (X:=X.wsh z) (i:=j) hN hj hy (zs2 (uf (X:=X.wsh z) Qo (uf (X:=X.wsh z) (zrl (X:=X.wsh z) hc hn (tG (X:=X.wsh z) (i:=i) hi hv hd hcd) hb) yq h2) h1)) hs hf) fun D σ H hq=>by
  obtain⟨F,Γ,D2,R,⟨as,t,e0,h⟩,k⟩:=hq;obtain⟨o,eσ,a,oe,dx,vs,rfl,ea,eo,ed,el,nd,hn,rt⟩:=R.sl i _ e0;unfold bB bB at rt;obtain⟨v,us,bs,cs,rfl,rfl,rt,rfl,rfl⟩:=rt;rw[List.append_nil] at nd hn e0 h;refine⟨.ref a,eσ,a,oe,dx,_,v,rfl,R.g _ _ ea,eo,R.g _ _ ed,by simp [List.lookup],by show(2:Nat)<=sizeLine;decide,fun p hp=> ?_⟩
  have gr:=Gr.laid (o:=HO.tup [.str c,v]) R.g hp;have R1:SR X.K F0 H0 F H σ (Γ.set i (.pu (.exc C))):=by
   have:=R.put i (s:= .pu (.exc C)) (o:=some (.ref a)) ⟨.ref a,rfl,by unfold Rep;exact⟨a,oe,rfl,ea⟩⟩ (fun _ h=>h.elim)
   rwa [qz eσ] at this
  have own:∀b∈bs,Apart σ (Γ.set i (.pu (.exc C))) b:=fun b hb m hm=>by
   have hm' :eU (Γ.set i (.pu (.exc C))) (σ.set i (some (.ref a))) m b:=by rw[qz eσ];exact hm
   rcases u6 hm' with ⟨_,q⟩ | ⟨n,q⟩
   ·exact q
   ·exact n (R.ap m i b q ⟨_,_,e0,eσ,hb⟩)
  have lv:∀b∈bs,b≠p:=fun b hb z=>by
   obtain⟨u,q,_⟩:=TR.there t v bs rt b hb;rw[z,hp] at q;cases q
  refine k.nx _ _ _ _ ((R1.grow gr).put j (s:= .nt bs c t) (o:=some (.ref p)) ⟨p,v,rfl,iu,nd,fun b hb=>⟨by rw[bC (lv b hb)];exact(hn b hb).1,(hn b hb).2⟩,TR.move gr.f t v bs (fun b hb u e=>gr.h b u e) rt⟩ own) gr.f h
theorem zr1(hi:X.N[i]?=some x)(hv:nP X.env.scope x)(hd:(x==("__debug__" :Str))=false:=by decide)(hcd:(x==("__classdict__" :Str))=false:=by decide):QS X F0 H0 (.Return (some (.Name x pos')) pos) (oG i):=fun z E cx=>
 j9 (Ip (tG (X:=X.wsh z) (i:=i) hi hv hd hcd)) fun D σ H hq=>by
  obtain⟨F,Γ,D2,R,h,k⟩:=hq;unfold oG at h;split at h
  ·rename_i d e0;obtain⟨o,eσ,v,rfl,rv⟩:=R.sl i _ e0;exact⟨v,eσ,k.rt d v F H R.gr rv h⟩
  ·rename_i as c t e0;obtain⟨o,eσ,p,v,rfl,ep,nd,hn,rt⟩:=R.sl i _ e0;exact⟨.ref p,eσ,k.rT (.tp c t) (.ref p) as F H R.gr nd hn ⟨p,v,rfl,ep,rt⟩ h⟩
  ·exact h.elim
end
section
variable{P:Program}{w:World}{K:W.Frag}{mg:Str ->Option Value}{base:Heap}
theorem Oe{x qual:Str}{st:Stmt}{f:Addr}{fd:FuncData}{N ps:List Str}{k:Nat}{sp:xK}(Fn:fK K x qual st f fd)(S:aA N ps (bF st))(len:∀ds Q E,sp ds Q E ->ds.length=ps.length)
  (hbody:∀(cdv:Value) (A:Around) (outer:List Env) (s:Shared) (H:Hp) (E:XK),bT k (A.deeper (envOfC qual (bF st) s.heap.objs.size f cdv)) ->∀F0:Hp,
   ∃t,lY (dF (cN P w) P w K mg base N qual (bF st) f cdv A outer s H E) F0 H (pJ st) t/\∀ds Q Ex,sp ds Q Ex ->t (xM Q) (cO N ds) fun _=>Ex):
  cJ P w K mg base (cN P w) (k+1) f fd ps (su K sp):=by
 obtain⟨oc,od,kV,doc,pm,an,cdv,ct,osl,rfl,lk,hcd⟩:=Fn.ex;refine Fd lk hcd S (fun vs H Q E ⟨F,ds,P',Ex,_,rs,hs,_⟩=>by rw[<- fY rs];exact len _ _ _ hs) fun A outer s H vs Q E hr ⟨F0,ds,Pd,Ex,sF,rs,hsp,hQ,hT,hE⟩=> ?_
 obtain⟨t,ht,hq⟩:=hbody cdv A outer s H E hr F0;have cx:Ctx ((dF (cN P w) P w K mg base N qual (bF st) f cdv A outer s H E).wsh ⟨(dF (cN P w) P w K mg base N qual (bF st) f cdv A outer s H E).xe,[]⟩) F0 H (fun _=>Ex):=by
  refine⟨fun pins σ Γ F H1 s1 e s' I R hx=> ?_,PassesOwn.leaving⟩;refine aY (Fp (E:=fun C dx H' =>E C dx H') I rfl rfl rfl (hx.imp fun C dx H' z=> ?_)) fun _ s'' z=>z;obtain⟨Γ',F',x,R',_,xr,_,z1⟩:=z;exact hE x C dx F' H' z1 R'.gr (xr.back R.gr.h)
 refine⟨_,ht _ _ cx,F0,cO N ds,xM Pd,FT sF rs,hq ds Pd Ex hsp,⟨fun Γ F' H' σ R' _ q=>hQ _ _ _ _ R'.gr (by unfold Rep;rfl) q,fun _ _ _ _ _ _ q=>q,fun _ _ _ _ _ _ q=>q,fun d v F' H' gr rv q=>hQ d v F' H' gr rv q,fun _ _ _ _ _ _ q=>q.elim,fun t v as F' H' gr nd hn r q=> ?_,fun _ _ _ _ _ _ _ _ q=>q.elim⟩⟩
 cases t with
 | one t=>exact q.elim
 | tp c t=>
  obtain⟨p,u,rfl,ep,rt⟩:=r;exact hT c t p u as F' H' gr ep nd hn rt q
end
abbrev yS:=G2 ->(RN ->G2 ->Prop) ->XW ->Prop
def Og(K:W.Frag)(F0 H0:Hp)(t:yS)(E:XW):TE:=fun σ H Q=>∃F Γ P,SR K F0 H0 F H σ Γ/\t Γ P E/\ (∀d Γ' F' H' v,SR K F0 H0 F' H' σ Γ' ->Same F F' ->Rep K F' d v ->P (.pl d) Γ' ->Q v H')/\
 ∀c t Γ' F' H' p v as,SR K F0 H0 F' H' σ Γ' ->Same F F' ->F' p=some (.tup [.str c,v]) ->as.Nodup ->(∀a∈as,F' a=none/\H0 a=none/\Apart σ Γ' a) ->TR K F' H' t v as ->P (.nt c t) Γ' ->Q (.ref p) H'
def Oh(X:Cx)(F0 H0:Hp)(e:Expr)(t:yS):Prop:=∀z E,Ctx (X.wsh z) F0 H0 E ->PE (X.wsh z) e (Og X.K F0 H0 t E)
def lJ(sp:xK)(t:aO):yS:=fun Γ P E=>t Γ (fun ds Γ1=>sp ds (fun r=>P r Γ1) fun C=>E Γ1 C) E
def sy(i:Nat)(t:yS):aq:=fun D Γ E=>t Γ (fun r Γ1=>match r with | .pl d=>D.nx (Γ1.set i (.pu d)) | .nt c t=>∀as,D.nx (Γ1.set i (.nt as c t))) E
def sE(i:Nat)(tn:gq):aq:=fun Dn Γ E=>tn Γ (fun t Γ1=>∃ds:List D,t= .lst (ds.map .leaf)/\Dn.nx (Γ1.set i (.ow ds))) E
def sG(t:yS):aB:=fun Γ P E=>t Γ (fun r Γ1=>match r with | .pl d=>P d Γ1 | .nt c t=>P (.tup [.str c,toD t]) Γ1) E
section
variable{X:Cx}{F0 H0:Hp}{e:Expr}{es:List Expr}{pos p py:Pos}{x y:Str}{ps:List Str}{k j:Nat}{sp:xK}{t:aO}{tr:yS}
theorem Oi(G:xO X.prog X.w X.K X.mg X.base x k ps sp)(hr:bT k X.A)(hg:Gl X x)(ha:QA X F0 H0 (e::es) t)(hdb:(x==("__debug__" :Str))=false:=by decide)(he:starEach (e::es) X.env=(false,eval e X.env)::starEach es X.env:=by rfl)(hpl:(backTo pos (starEach es X.env)).any (·.1)=false:=by rfl):
  Oh X F0 H0 (.Call (.Name x p) (e::es) [] pos) (lJ sp t):=by
 obtain⟨f,fd,Fn,hm,hk,hb⟩:=G.ex;rintro z E cx pins s σ H Q I ⟨F,Γ,P,R,h,kk,kt⟩;refine wpAny_Call_Name_kw (yh (X:=X.wsh z) I hg hm ?_ hdb);refine W.callWith_K (h₀:=X.base) I.ok.mod.zm hk (aY (ha z E cx pos pins s σ H (fun vs H1=>∃F1 Γ1 ds,SR X.K F0 H0 F1 H1 σ Γ1/\Same F F1/\ak X.K F1 ds vs/\sp ds (fun d=>P d Γ1) fun C=>E Γ1 C) I ⟨F,Γ,_,R,h,fun ds Γ1 F1 H1 vs R1 s1 r1 h1=>⟨F1,Γ1,ds,R1,s1,r1,h1⟩⟩) fun us s1 ⟨vs,H1,I1,r,F1,Γ1,ds,R1,sF,rs,q⟩=>⟨I1.kIn,?_⟩) he hpl;have hs:su X.K sp vs H1 Q (fun C dx H' =>∃x F',E Γ1 x/\Gr F1 H1 F' H' /\qG X.K F' H1 H' C dx x):=⟨F1,ds,_,_,R1.g,rs,q,fun d v F' H' gr rv hp=>kk d Γ1 F' H' v (R1.grow gr) (sF.trans gr.f) rv hp,fun c t p v as F' H' gr ep nd hn rt hp=>kt c t Γ1 F' H' p v as (R1.grow gr) (sF.trans gr.f) ep nd (fun a ha=>⟨(hn a ha).1,R1.gr.h.free (hn a ha).2,R1.apart (hn a ha).2⟩) rt hp,fun x C dx F' H' hE gr xr=>⟨x,F',hE,gr,xr⟩⟩;have hl:(us++ []).length=ps.length:=by rw[List.append_nil,<- r.length];exact Fn.len _ _ _ _ hs
 have hbs:=hb s1 us I1.kIn hl;rw[List.append_nil] at hbs;refine wpAny_call (codeAny_mono (Fn.run X.A X.stack s1 H1 ⟨us,[]⟩ us vs Q _ hr I1.env0 hbs r hs) fun r s' hq=> ?_);cases r with
 | error e=>exact cx.px pins σ Γ1 F1 H1 s1 e s' I1 R1 hq
 | ok fl=>
  cases fl with
  | ret u=>exact I1.after hq
  | next=>exact False.elim hq
  | brk=>exact False.elim hq
  | cont=>exact False.elim hq
theorem zrr(hN:X.N.Nodup)(hj:X.N[j]?=some y)(hy:Loc X.env.scope y)(he:Oh X F0 H0 e tr)(hs:swapsWith e (some (.Name y py)) pos.line X.env=pure false:=by rfl)
  (hf:X.fn y=true\/X.env.scope.names.lookup y=some .local:=by first | exact .inl rfl | exact .inr rfl):QS X F0 H0 (.Assign [.Name y py] e pos) (sy j tr):=fun z E cx=>
 j9 (yj (X:=X.wsh z) (i:=j) hN hj hy (he z E cx) hs hf) fun D σ H hq=>by
  obtain⟨F,Γ,D2,R,h,k⟩:=hq;exact⟨F,Γ,_,R,h,fun d Γ1 F1 H1 v R1 s1 rv h1=>k.nx _ _ _ _ (R1.set j rv) s1 h1,fun c t Γ1 F1 H1 p v as R1 s1 ep nd hn rt h1=>k.nx _ _ _ _ (R1.put j (s:= .nt as c t) (o:=some (.ref p)) ⟨p,v,rfl,ep,nd,fun b hb=>⟨(hn b hb).1,(hn b hb).2.1⟩,rt⟩ fun b hb=>(hn b hb).2.2) s1 (h1 as)⟩
theorem zrj{tn:gq}(hN:X.N.Nodup)(hj:X.N[j]?=some y)(hy:Loc X.env.scope y)(he:QN X F0 H0 e tn)(hs:swapsWith e (some (.Name y py)) pos.line X.env=pure false:=by rfl)
  (hf:X.fn y=true\/X.env.scope.names.lookup y=some .local:=by first | exact .inl rfl | exact .inr rfl):QS X F0 H0 (.Assign [.Name y py] e pos) (sE j tn):=fun z E cx=>
 j9 (yj (X:=X.wsh z) (i:=j) hN hj hy (he z E cx) hs hf) fun D σ H hq=>by
  obtain⟨F,Γ,D2,R,h,k⟩:=hq;refine⟨F,Γ,_,R,h,fun t Γ1 F1 H1 v as R1 s1 nd hn rt h1=> ?_⟩;obtain⟨ds,rfl,h1⟩:=h1;unfold TR at rt;obtain⟨a,vs,bs,rfl,rfl,ea,Oj⟩:=rt;obtain⟨rfl,rr⟩:=Vs Oj;obtain⟨q1,q2,q3⟩:=hn a zY;exact k.nx _ _ _ _ (R1.setOw j ea q1 q2 rr q3) s1 h1
open Classical in
theorem Wm(he:Oh X F0 H0 e tr):QE X F0 H0 e (sG tr):=fun z E cx=>
 jB (he z E cx) fun σ H Q hq=>by
  obtain⟨F,Γ,P,R,h,k⟩:=hq;refine⟨F,Γ,_,R,h,fun d Γ1 F1 H1 v R1 s1 rv h1=>k d Γ1 F1 H1 v R1 s1 rv h1,fun c t Γ1 F1 H1 p v as R1 s1 ep nd hn rt h1=> ?_⟩;have inF:∀b u,F1 b=some u ->b∉as:=fun b u q hb=>by rw[(hn b hb).1] at q;cases q
  have s2:Same F1 (fun b=>if b∈as then H1 b else F1 b):=fun b u q=>by
   show(if b∈as then H1 b else F1 b)=some u;rw[if_neg (inF b u q)];exact q
  have s3:Same (fun b=>if b∈as then H1 b else F1 b) H1:=fun b u q=>by
   change (if b∈as then H1 b else F1 b)=some u at q
   split at q
   ·exact q
   ·exact R1.g b u q
  have R2:=R1.frzM s2 s3 fun b u q n=>by
   change (if b∈as then H1 b else F1 b)=some u at q
   by_cases hb:b∈as
   ·exact(hn b hb).2
   ·rw[if_neg hb,n] at q;cases q
  refine k _ Γ1 _ H1 _ R2 (s1.trans s2) ?_ h1;unfold Rep;exact⟨p,[.str c,v],rfl,.inl (.inl (s2 _ _ ep)),pq (by unfold Rep;rfl) (yu (TR.rep s2 t v as (fun a ha u q=>by show(if a∈as then H1 a else F1 a)=some u;rw[if_pos ha];exact q) rt))⟩
end
def isV(o:Option W.CFound)(s:String):Bool:=match o with
 | some (.val (.builtin t))=>t==s
 | _=>false
theorem isV_of{o:Option W.CFound}{s:String}(h:isV o s=true):o=some (.val (.builtin s)):=by
 unfold isV at h;split at h
 ·rw[beq_iff_eq.mp h]
 ·cases h
def Dg(i x:Nat)(p a b:Addr)(c:Str)(mK:List T)(j:Nat)(I:Nat ->G2 ->Prop):G2 ->Prop:=fun Γ' =>∃cs' us',Γ'[x]?=some (Slot.tr (b::cs') (.lst us'))/\Γ'[i]?=some (Slot.pu (.ptr p))/\
 ∀q:List Addr,I (j+1) ((Γ'.set x Slot.no).set i (Slot.nt (a::q) c (.lst (mK.set j (.lst us')))))
def oH(i x:Nat)(tb:aq):aq:=fun D0 Γ _=>∃as c ts,Γ[i]?=some (Slot.nt as c (.lst ts))/\∀p a bs,as=a::bs ->∃I:Nat ->G2 ->Prop,I 0 Γ/\
 (∀(j:Nat) Γ1,j<ts.length ->I j Γ1 ->∃Hi mK us,Γ1[i]?=some (Slot.nt (a::Hi) c (.lst mK))/\mK.length=ts.length/\mK[j]?=some (.lst us)/\
  ∀(b:Addr) (cs:List Addr),tb {nx:=Dg i x p a b c mK j I,ct:=fun _=>False,bk:=fun _=>False,rt:=D0.rt,rf:=D0.rf,rT:=D0.rT} ((Γ1.set i (Slot.pu (.ptr p))).set x (Slot.tr (b::cs) (.lst us))) dX)/\
 ∀Γ1,I ts.length Γ1 ->D0.nx Γ1
section
variable{X:Cx}{F0 H0:Hp}{pos px pn:Pos}{xv xn:Str}{i x:Nat}{body:List Stmt}{tb:aq}
open Classical in
theorem zrq{j1 cp sp}(hc:X.calm=true)(hN:X.N.Nodup)(hi:X.N[i]?=some xn)(hv:nP X.env.scope xn)(hx:X.N[x]?=some xv)(Ub:Loc X.env.scope xv)(hne:i≠x)(hb:∀F0 H0,lY X F0 H0 body tb)
  (hf:X.fn xv=true\/X.env.scope.names.lookup xv=some .local:=by first | exact .inl rfl | exact .inr rfl)
  (hd:(xn==("__debug__" :Str))=false:=by decide) (hcd:(xn==("__classdict__" :Str))=false:=by decide) (hpi:Fe (.Constant (.int 1) j1 cp):=by exact fun _ _=>rfl) (hs:∀y,foldedSetIterable (.Subscript (.Name xn pn) (.Constant (.int 1) j1 cp) sp) X.env y=pure y:=by intro _;rfl):
  QS X F0 H0 (.For (.Name xv px) (.Subscript (.Name xn pn) (.Constant (.int 1) j1 cp) sp) body [] pos) (oH i x tb):=fun z E cx=>by
 have hB:pG (X.wsh z) body (fun Dn σ H=>∃F1 H1,yC X.K F1 H1 tb dX Dn σ H):=by
  rintro pins s σ H Dn I ⟨F1,H1,h⟩;exact hb F1 H1 z dX (GK cx) pins s σ H Dn I h
 refine j9 (Ey (X:=X.wsh z) cx.po hc (Ss (Jx (X:=X.wsh z) (r:=v8 X.K) Rn (tG (X:=X.wsh z) (i:=i) hi hv hd hcd) Ib hpi)) (Qx (X:=X.wsh z) (i:=x) hN hx Ub hf) hB hs) fun Dn σ H hq1=> ?_;obtain⟨F,Γ,D2,R,h,k⟩:=hq1;obtain⟨as,c,ts,e0,h⟩:=h;obtain⟨o,e1,p,v,rfl,ep,nd,hn,r⟩:=R.sl i _ e0;unfold TR at r;obtain⟨a,vs,bs,rfl,rfl,ea,Oj⟩:=r;obtain⟨I,i0,turn,done⟩:=h p a bs rfl;have hlen:=M8 Oj;refine⟨.ref p,e1,p,[.str c,.ref a],1,.ref a,rfl,rfl,.inl (.inl (R.g _ _ ep)),jx (j:=1) rfl,a,rfl,.inl ⟨⟨vs,.inl (.inl ea)⟩,QJ (K:=X.K) (g:=qx x) (tb:=fun Dn σ H=>∃F1 H1,yC X.K F1 H1 tb dX Dn σ H) (D:=Dn) (xs:=vs) (fun j σ H=>∃F2 Γ2,SR X.K F0 H0 F2 H σ Γ2/\Same F F2/\I j Γ2/\H a=some (.lst vs)/\σ[i]?=some (some (.ref p))) ⟨F,Γ,R,.refl _,i0,ea,e1⟩ (fun j σ H _ ⟨F2,Γ2,R2,s2,_,q,_⟩=> .inl (.inl q)) ?_ ?_⟩⟩
 ·rintro j w σ2 H2 hw ⟨F2,Γ2,R2,s2,hI,ha2,es2⟩;have hj:j<vs.length:=(zW.mp hw).1;obtain⟨Hi,mK,us,g0,g1,g2,g3⟩:=turn j Γ2 (by rw[hlen];exact hj) hI
  obtain⟨o,g4,p',v,rfl,Wn,nd2,hn2,r2⟩:=R2.sl i _ g0;rw[es2] at g4;cases g4;have Wo:=s2 _ _ ep;rw[Wn] at Wo;cases Wo;unfold TR at r2;obtain⟨a',vs2,bs2,q1,q2,q3,Dh⟩:=r2;cases q1;cases q2;rw[ha2] at q3;cases q3;obtain⟨w',c1,cj,c2,p1,rfl,p3,p4⟩:=Vl Dh g2;rw[hw] at p1;cases p1;have Wq :=p3;unfold TR at Wq;obtain⟨b,ws,cs,rfl,rfl,hbl,_⟩:=Wq;have Hl:=List.nodup_cons.mp nd2;have Ho:=List.nodup_append.mp Hl.2;have Ol:=List.nodup_append.mp Ho.2.1;have Wr:∀c∈b::cs,c∈a::(c1++ ((b::cs)++c2)):=fun c hc=>zX _ (zR _ (zQ _ hc));have Om:∀c∈a::(c1++c2),c∈a::(c1++ ((b::cs)++c2))/\c∉b::cs:=fun c hc=>by
   rcases zV.mp hc with rfl | hc
   ·exact⟨zY,fun z=>Hl.1 (zR _ (zQ _ z))⟩
   ·rcases zU.mp hc with hc | hc
    ·exact⟨zX _ (zQ _ hc),fun z=>Ho.2.2 c hc c (zQ _ z) rfl⟩
    ·exact⟨zX _ (zR _ (zR _ hc)),fun z=>Ol.2.2 c z c hc rfl⟩
  have Ws:∀c∈a::(c1++ ((b::cs)++c2)),Apart σ2 (Γ2.set i (.pu (.ptr p))) c:=fun c hc m q=>by
   have q' :eU (Γ2.set i (.pu (.ptr p))) (σ2.set i (some (.ref p))) m c:=by rw[qz es2];exact q
   rcases u6 q' with ⟨_,z⟩ | ⟨n,z⟩
   ·exact z
   ·exact n (R2.ap m i c z ⟨_,_,g0,es2,hc⟩)
  have R1:SR X.K F0 H0 F2 H2 σ2 (Γ2.set i (.pu (.ptr p))):=by
   have q:=R2.set (d:= .ptr p) (v:= .ref p) i (by unfold Rep;rfl)
   rw[qz es2] at q;exact q
  have RB:SR X.K F0 H0 F2 H2 (σ2.set x (some (.ref b))) ((Γ2.set i (.pu (.ptr p))).set x (.tr (b::cs) (.lst us))):=
   R1.put x (s:= .tr (b::cs) (.lst us)) ⟨.ref b,rfl,Ol.1,fun c hc=>hn2 c (Wr c hc),p3⟩ fun c hc=>Ws c (Wr c hc)
  have Oo:∀c,fD ((Γ2.set i (.pu (.ptr p))).set x (.tr (b::cs) (.lst us))) (σ2.set x (some (.ref b))) c ->H0 c=none:=fun c pN=>by
   obtain⟨m,s,o,h1,h2,h3⟩:=pN;obtain⟨o',h4,r⟩:=RB.sl m s h1;rw[h2] at h4;cases h4;exact(pL r h3).2.1
  have sub:Same H0 (lG ((Γ2.set i (.pu (.ptr p))).set x (.tr (b::cs) (.lst us))) (σ2.set x (some (.ref b))) H2):=fun c u e=>by
   rw[Vt fun z=>by rw[Oo c z] at e;cases e]
   exact R2.gr.h c u e
  have keep:∀c∈a::(c1++c2),∃u,LD u/\H2 c=some u/\lG ((Γ2.set i (.pu (.ptr p))).set x (.tr (b::cs) (.lst us))) (σ2.set x (some (.ref b))) H2 c=some u:=fun c hc=>by
   obtain⟨m1,m2⟩:=Om c hc;obtain⟨u,hu,ld⟩:∃u,H2 c=some u/\LD u:=TR.there (K:=X.K) (F:=F2) (.lst mK) (.ref a) _ (by unfold TR;exact⟨a,_,_,rfl,rfl,ha2,Dh⟩) c m1
   refine⟨u,ld,hu,?_⟩;rw[Vt]
   ·exact hu
   ·rintro⟨m,q⟩;rcases u6 q with ⟨_,z⟩ | ⟨_,z⟩
    ·exact m2 z
    ·exact Ws c m1 m z
  generalize hHr:lG ((Γ2.set i (.pu (.ptr p))).set x (.tr (b::cs) (.lst us))) (σ2.set x (some (.ref b))) H2=Hr at sub keep;have Rb:=RB.reb;rw[hHr] at Rb;refine⟨F2,Hr,F2,_,_,Rb,g3 b cs,⟨fun Γ' F' H' σ' R' sF ⟨cs',us',b1,b2,b3⟩=> ?_,fun _ _ _ _ _ _ q=>q.elim,fun _ _ _ _ _ _ q=>q.elim,fun d v F' H' gr rv q=>k.rt d v F' H' (R2.gr.unreb sub gr) rv q,
   fun d v F' H' gr rv q=>k.rf d v F' H' (R2.gr.unreb sub gr) (rv.up (RW R2.gr.f)) q,fun t v as F' H' gr nd hn rv q=>k.rT t v as F' H' (R2.gr.unreb sub gr) nd (fun c hc=>⟨(hn c hc).1,sub.free (hn c hc).2⟩) rv q,fun _ _ _ _ _ _ _ _ q=>q.elim⟩⟩
  have R'' :SR X.K F0 H0 F' H' σ' Γ' :=SR.unreb R2.gr sub R';obtain⟨o,x1,v,rfl,ndx,hnx,rx⟩:=R'.sl x _ b1;obtain⟨o,y1,v',rfl,ry⟩:=R'.sl i _ b2;unfold Rep at ry;subst ry;have Wt :=rx;unfold TR at Wt;obtain⟨b',ws',ds',rfl,eb,_,_⟩:=Wt;cases eb;have stay:∀c∈a::(c1++c2),∃u,H2 c=some u/\H' c=some u/\F' c=none/\c∉b::cs' /\∀m,¬eU Γ' σ' m c:=fun c hc=>by
   obtain⟨u,ld,hu,hr⟩:=keep c hc;have no:∀m,¬eU Γ' σ' m c:=fun m uo=>by
    obtain⟨s,o,h1,h2,h3⟩:=uo;obtain⟨o',h4,r⟩:=R'.sl m s h1;rw[h2] at h4;cases h4;have:=(pL r h3).2.1;rw[hr] at this;cases this
   refine⟨u,hu,R'.gr.h c u hr,?_,(fun z=>by rw[(hnx c z).2] at hr;cases hr),no⟩
   cases q:F' c with
   | none=>rfl
   | some w=>
    rcases R'.gr.n c w q (hn2 c (Om c hc).1).1 with z | ⟨⟨xs,e'⟩,z⟩
    ·rw[hr] at z;cases z
    ·rw[hr] at z;cases z;subst e';exact ld.tup.elim
  have ha' :H' a=some (.lst vs):=by
   obtain⟨u,hu,hu',_⟩:=stay a zY;rw[ha2] at hu;cases hu;exact hu'
  have tx:bB X.K F' H' (mK.set j (.lst us')) vs (c1++ ((b::cs')++c2)):=p4 sF (fun c hc u hu=>by
   obtain⟨u',hu1,hu2,_⟩:=stay c (zX _ hc);rw[hu] at hu1;cases hu1;exact hu2) rx
  have R3:=R''.dropAt x1;have Di:∀c∈a::(c1++ ((b::cs')++c2)),c∈b::cs' \/c∈a::(c1++c2):=fun c hc=>by
   rcases zV.mp hc with rfl | hc
   ·exact .inr zY
   ·rcases zU.mp hc with hc | hc
    ·exact .inr (zX _ (zQ _ hc))
    ·rcases zU.mp hc with hc | hc
     ·exact .inl hc
     ·exact .inr (zX _ (zR _ hc))
  have ndn:(a::(c1++ ((b::cs')++c2))).Nodup:=by
   have out:∀c∈a::(c1++c2),c∉b::cs' :=fun c hc=>by obtain⟨_,_,_,_,q,_⟩:=stay c hc;exact q
   refine List.nodup_cons.mpr ⟨fun z=> ?_,List.nodup_append.mpr ⟨Ho.1,List.nodup_append.mpr ⟨ndx,Ol.2.1,fun p0 hp q hq e=> ?_⟩,fun p0 hp q hq e=> ?_⟩⟩
   ·rcases zU.mp z with z | z
    ·exact Hl.1 (zQ _ z)
    ·rcases zU.mp z with z | z
     ·exact out a zY z
     ·exact Hl.1 (zR _ (zR _ z))
   ·subst e;exact out p0 (zX _ (zR _ hq)) hp
   ·subst e;rcases zU.mp hq with hq | hq
    ·exact out p0 (zX _ (zQ _ hp)) hq
    ·exact Ho.2.2 p0 hp p0 (zR _ hq) rfl
  have R4:=R3.put i (s:= .nt (a::(c1++ ((b::cs')++c2))) c (.lst (mK.set j (.lst us')))) (o:=some (.ref p)) ⟨p,.ref a,rfl,sF _ _ Wn,ndn,fun c hc=> ?_,by unfold TR;exact⟨a,vs,_,rfl,rfl,ha',tx⟩⟩ fun c hc=> ?_
  ·rw[qz y1] at R4;exact⟨F',_,R4,s2.trans sF,b3 _,ha',y1⟩
  ·rcases Di c hc with z | z
   ·exact⟨(hnx c z).1,sub.free (hnx c z).2⟩
   ·obtain⟨_,_,_,q,_⟩:=stay c z;exact⟨q,(hn2 c (Om c z).1).2⟩
  ·rcases Di c hc with z | z
   ·exact R''.less b1 x1 z
   ·obtain⟨_,_,_,_,_,q⟩:=stay c z;exact Vq x1 q
 ·rintro σ2 H2 ⟨F2,Γ2,R2,s2,hI,_⟩;exact k.nx _ _ _ _ R2 s2 (done Γ2 (by rw[hlen];exact hI))
end
end L3
namespace HM
theorem zrh(a b:Int):Int.gcd b (a.fmod b)=Int.gcd a b:=by
 rw[Int.fmod_def,Int.gcd_sub_mul_left_right,Int.gcd_comm]
theorem Wu{a b:Int}(h:b≠0):(a.fmod b).natAbs<b.natAbs:=by
 rw[Int.fmod_eq_emod];have h1:=Int.emod_nonneg a h;have h2:=Int.emod_lt a h;split
 ·omega
 ·rename_i q;have q1:b<0:=by omega
  have q2:a % b≠0:=fun z=>q (.inr (Int.dvd_of_emod_eq_zero z));omega
def dv(t b:Int):Int:=if b<0 then -(Int.gcd t b:Int) else Int.gcd t b
def fr(t b:Int):Int×Int:=(t.fdiv (dv t b),b.fdiv (dv t b))
theorem Dj{t b:Int}(h:b≠0):dv t b≠0:=by
 unfold dv;have:Int.gcd t b≠0:=by
  intro e;exact h (Int.gcd_eq_zero_iff.mp e).2
 split<;>omega
theorem ztt(t b:Int):dv t b∣t:=by
 unfold dv;split
 ·exact Int.neg_dvd.mpr (Int.gcd_dvd_left ..)
 ·exact Int.gcd_dvd_left ..
theorem Wv(t b:Int):dv t b∣b:=by
 unfold dv;split
 ·exact Int.neg_dvd.mpr (Int.gcd_dvd_right ..)
 ·exact Int.gcd_dvd_right ..
theorem Ww{a b:Int}(h:b∣a):b*a.fdiv b=a:=by
 rw[Int.fdiv_eq_ediv_of_dvd h];exact Int.mul_ediv_cancel' h
theorem Oq(t b:Int):dv t b* (fr t b).1=t:=Ww (ztt t b)
theorem Hq(t b:Int):dv t b* (fr t b).2=b:=Ww (Wv t b)
theorem Ot{t b:Int}(h:b≠0):0< (fr t b).2:=by
 have e:=Hq t b;have n:=Dj (t:=t) h;generalize (fr t b).2=y at*;unfold dv at e n;split at e
 ·rename_i hb;have g0:(0:Int)<Int.gcd t b:=by
   rw[if_pos hb] at n;have:(0:Int)<=Int.gcd t b:=Int.natCast_nonneg _;omega
  rcases Int.lt_or_le 0 y with h | h
  ·exact h
  ·have:0<= -(Int.gcd t b:Int)*y:=by
    rw[Int.neg_mul,<- Int.mul_neg];exact Int.mul_nonneg (by omega) (by omega)
   omega
 ·rename_i hb;have g0:(0:Int)<Int.gcd t b:=by
   rw[if_neg hb] at n;have:(0:Int)<=Int.gcd t b:=Int.natCast_nonneg _;omega
  rcases Int.lt_or_le 0 y with h | h
  ·exact h
  ·have:(Int.gcd t b:Int)*y<=0:=Int.mul_nonpos_of_nonneg_of_nonpos (by omega) h
   omega
theorem Ou{t b:Int}(h:b≠0):Int.gcd (fr t b).1 (fr t b).2=1:=by
 have e1:=Oq t b;have e2:=Hq t b;have n:=Dj (t:=t) h;have e3:Int.gcd (dv t b* (fr t b).1) (dv t b* (fr t b).2)=(dv t b).natAbs*Int.gcd (fr t b).1 (fr t b).2:=Int.gcd_mul_left ..;rw[e1,e2] at e3;have e4:(dv t b).natAbs=Int.gcd t b:=by
  unfold dv;split<;>simp
 rw[e4] at e3;have g0:Int.gcd t b≠0:=fun z=>h (Int.gcd_eq_zero_iff.mp z).2;exact(Nat.eq_of_mul_eq_mul_left (Nat.pos_of_ne_zero g0) (by rw[Nat.mul_one];exact e3)).symm
theorem Ov{t b:Int}:(fr t b).1*b=t* (fr t b).2:=by
 have e1:=Oq t b;have e2:=Hq t b
 calc (fr t b).1*b=(fr t b).1* (dv t b* (fr t b).2):=by rw[e2]
  _=(dv t b* (fr t b).1)* (fr t b).2:=by rw[<- Int.mul_assoc,Int.mul_comm (fr t b).1]
  _=t* (fr t b).2:=by rw[e1]
theorem Wx{a b c d:Int}(hb:0<b)(hd:0<d)(h1:Int.gcd a b=1)(h2:Int.gcd c d=1)(h:a*d=c*b):a=c/\b=d:=by
 have bd:b∣d:=by
  have:b∣a*d:=⟨c,by rw[h,Int.mul_comm]⟩
  have z:=Int.dvd_gcd_mul_iff_dvd_mul.mpr this;rw[Int.gcd_comm,h1] at z
  simpa using z
 have db:d∣b:=by
  have:d∣c*b:=⟨a,by rw[<- h,Int.mul_comm]⟩
  have z:=Int.dvd_gcd_mul_iff_dvd_mul.mpr this;rw[Int.gcd_comm,h2] at z
  simpa using z
 have e:b=d:=Int.dvd_antisymm (Int.le_of_lt hb) (Int.le_of_lt hd) bd db;subst e;exact⟨Int.eq_of_mul_eq_mul_right (Int.ne_of_gt hb) h,rfl⟩
theorem zy2{t b t' b' :Int}(h:b≠0)(h' :b' ≠0)(e:t*b' =t' *b):fr t b=fr t' b' :=by
 have c1:=Ov (t:=t) (b:=b);have c2:=Ov (t:=t') (b:=b');have p1:=Ot (t:=t) h;have p2:=Ot (t:=t') h';have k:(fr t b).1* (fr t' b').2=(fr t' b').1* (fr t b).2:=by
  generalize (fr t b).1=x at*;generalize (fr t b).2=y at*;generalize (fr t' b').1=x' at*;generalize (fr t' b').2=y' at*
  
  have:(x*y')* (b*b')=(x' *y)* (b*b'):=by
   calc (x*y')* (b*b')=(x*b)* (b' *y'):=by ac_rfl
    _=(t*y)* (b' *y'):=by rw[c1]
    _=(t*b')* (y*y'):=by ac_rfl
    _=(t' *b)* (y*y'):=by rw[e]
    _=(t' *y')* (b*y):=by ac_rfl
    _=(x' *b')* (b*y):=by rw[c2]
    _=(x' *y)* (b*b'):=by ac_rfl
  exact Int.eq_of_mul_eq_mul_right (Int.mul_ne_zero h h') this
 obtain⟨e1,e2⟩:=Wx p1 p2 (Ou h) (Ou h') k;exact Prod.ext e1 e2
theorem Wy{a b:Int}(hb:0<b)(h:Int.gcd a b=1):fr a b=(a,b):=by
 have c1:=Ov (t:=a) (b:=b);obtain⟨e1,e2⟩:=Wx (Ot (t:=a) (Int.ne_of_gt hb)) hb (Ou (Int.ne_of_gt hb)) h (by rw[c1])
 exact Prod.ext e1 e2
theorem zv8{t b:Int}(h:b≠0):(fr t b).1.natAbs<=t.natAbs:=by
 have e:=congrArg Int.natAbs (Oq t b);rw[Int.natAbs_mul] at e;have n:=Dj (t:=t) h;have:1<=(dv t b).natAbs:=by omega
 calc (fr t b).1.natAbs=1* (fr t b).1.natAbs:=by rw[Nat.one_mul]
  _<=(dv t b).natAbs* (fr t b).1.natAbs:=Nat.mul_le_mul_right _ this
  _=t.natAbs:=e
theorem zw5{t b:Int}(h:b≠0):(fr t b).2.natAbs<=b.natAbs:=by
 have e:=congrArg Int.natAbs (Hq t b);rw[Int.natAbs_mul] at e;have n:=Dj (t:=t) h;have:1<=(dv t b).natAbs:=by omega
 calc (fr t b).2.natAbs=1* (fr t b).2.natAbs:=by rw[Nat.one_mul]
  _<=(dv t b).natAbs* (fr t b).2.natAbs:=Nat.mul_le_mul_right _ this
  _=b.natAbs:=e
end HM
namespace L3
open PySem L2 HM
def qD(q:Rat):D:= .tup [.int q.num,.int q.den]
theorem zua{t b:Int}(h:b≠0):fr t b=((Rat.divInt t b).num,((Rat.divInt t b).den:Int)):=by
 have hb:(0:Int)< (Rat.divInt t b).den:=by have:=(Rat.divInt t b).den_pos;omega
 have hg:Int.gcd (Rat.divInt t b).num (Rat.divInt t b).den=1:=by
  have:=(Rat.divInt t b).reduced;unfold Nat.Coprime at this
  simpa [Int.gcd] using this
 have e:(Rat.divInt t b).num*b=t* (Rat.divInt t b).den:=by
  have q:=Rat.num_divInt_den (Rat.divInt t b);rw[Rat.divInt_eq_divInt_iff (by omega) h] at q
  exact q
 have:=zy2 (t:=t) (b:=b) (t' :=(Rat.divInt t b).num) (b' :=(Rat.divInt t b).den) h (by omega) e.symm
 rw[this,Wy hb hg]
theorem Wz{t b:Int}(h:b≠0):fr t b=(((t:Rat)/ (b:Rat)).num,(((t:Rat)/ (b:Rat)).den:Int)):=by
 rw[zua h,Rat.divInt_eq_div]
theorem WD(q:Rat):((q.den:Int):Rat)≠0:=by
 have:=q.den_pos;intro e;have:(q.den:Int)=0:=by exact_mod_cast e
 omega
theorem WK(q:Rat):(q.num:Rat)/ ((q.den:Int):Rat)=q:=by
 have:=Rat.num_divInt_den q;rw[Rat.divInt_eq_div] at this;exact this
def Sz(n:Nat)(q:Rat):Prop:=cP q.num<=n/\cP (q.den:Int)<=n
theorem Sz.up{m n:Nat}{q:Rat}(h:Sz m q)(k:m<=n):Sz n q:=⟨zP h.1 k,zP h.2 k⟩
theorem Ow{t b:Int}{n:Nat}(h:b≠0)(h1:cP t<=n)(h2:cP b<=n):Sz n ((t:Rat)/ (b:Rat)):=by
 have e:=Wz (t:=t) h;have e1:(fr t b).1=_:=congrArg Prod.fst e;have e2:(fr t b).2=_:=congrArg Prod.snd e;dsimp only at e1 e2;refine⟨zP (Kq ?_) h1,zP (Kq ?_) h2⟩
 ·rw[<- e1];exact zv8 h
 ·rw[<- e2];exact zw5 h
theorem WL(a b:Rat):a+b=((a.num*b.den+b.num*a.den:Int):Rat)/ ((a.den*b.den:Int):Rat):=by
 have ha:=WD a;have hb:=WD b;have h1:=WK a;have h2:=WK b;rw[Rat.intCast_add,Rat.intCast_mul,Rat.intCast_mul,Rat.intCast_mul];generalize (a.num:Rat)=x at*;generalize (b.num:Rat)=y at*;generalize ((a.den:Int):Rat)=u at*;generalize ((b.den:Int):Rat)=v at*;subst h1 h2
 grind
theorem WM(a b:Rat):decide (a<b)=decide (a.num*b.den<b.num*a.den):=by
 rw[decide_eq_decide];exact Rat.lt_iff a b
theorem zm3(a b:Rat):(a.den*b.den:Int)≠0:=Int.mul_ne_zero (by have:=a.den_pos;omega) (by have:=b.den_pos;omega)
theorem WQ{t b:Int}(h:b≠0):D.tup [.int (fr t b).1,.int (fr t b).2]=qD ((t:Rat)/ (b:Rat)):=by rw[Wz h];rfl
theorem zw6{m n:Nat}{a b:Rat}(ha:Sz m a)(hb:Sz n b):Sz (m+n+1) (a+b):=by
 rw[WL];refine Ow (zm3 a b) ?_ ?_
 ·have h1:=FW a.num b.den;have h2:=FW b.num a.den;have h3:=Sy (a.num*b.den) (b.num*a.den);have:=ha.1;have:=ha.2;have:=hb.1;have:=hb.2;omega
 ·have h1:=FW a.den b.den;have:=ha.2;have:=hb.2;omega
theorem zx2(i:Int):qD (i:Rat)= .tup [.int i,.int 1]:=rfl
theorem zx5{i:Int}{n:Nat}(h:cP i<=n)(hn:1<=n):Sz n (i:Rat):=⟨h,zP (jg (k:=1) (show(1:Nat)<2^1 by decide)) hn⟩
def oJ:List Rat ->Rat | []=>0 | q::qs=>q+oJ qs
abbrev sI(l:List Rat):Prop:=l.Pairwise (· <= ·)
def cnt(q:Rat)(l:List Rat):Nat:=(l.filter fun o=> !decide (q<o)).length
def jc(l:List Rat)(q:Rat):List Rat:=l.take (cnt q l)++q::l.drop (cnt q l)
def qg(qs:List Rat):List Rat:=qs.foldl jc []
theorem Ox{q:Rat}:∀{l:List Rat} {k:Nat},sI l ->k<=l.length ->(∀j (h:j<l.length),j<k ->¬q<l[j]) ->(∀h:k<l.length,q<l[k]) ->cnt q l=k
 | [],k,_,hk,_,_=>by simp at hk;subst hk;rfl
 | x::l,0,hs,_,_,h2=>by
  have h:=h2 (by simp)
  have all:∀o∈x::l,q<o:=by
   intro o ho;rcases zV.mp ho with rfl | ho
   ·exact h
   ·exact Std.lt_of_lt_of_le h ((List.pairwise_cons.mp hs).1 o ho)
  unfold cnt;rw[List.filter_eq_nil_iff.mpr]
  ·rfl
  ·intro o ho;simp [all o ho]
 | x::l,k+1,hs,hk,h1,h2=>by
  have hx:=h1 0 (by simp) (by omega)
  have ih:=Ox (q:=q) (l:=l) (k:=k) (List.pairwise_cons.mp hs).2 (by simpa using hk) (fun j hj hjk=>by have:=h1 (j+1) (by simpa using hj) (by omega);simpa using this) (fun h=>by have:=h2 (by simpa using h);simpa using this)
  unfold cnt at ih⊢;rw[List.filter_cons,if_pos (by simpa using hx),List.length_cons,ih]
theorem WR{q:Rat}:∀{l:List Rat},sI l ->(∀o∈l.take (cnt q l),o<=q)/\∀o∈l.drop (cnt q l),q<o
 | [],_=>⟨by simp,by simp⟩
 | x::l,hs=>by
  obtain⟨p1,p2⟩:=List.pairwise_cons.mp hs;obtain⟨i1,i2⟩:=WR (q:=q) (l:=l) p2;by_cases hx:q<x
  ·have all:∀o∈x::l,q<o:=by
    intro o ho;rcases zV.mp ho with rfl | ho
    ·exact hx
    ·exact Std.lt_of_lt_of_le hx (p1 o ho)
   have e:cnt q (x::l)=0:=by
    unfold cnt;rw[List.filter_eq_nil_iff.mpr]
    ·rfl
    ·intro o ho;simp [all o ho]
   rw[e];exact⟨by simp,by simpa using all⟩
  ·have e:cnt q (x::l)=cnt q l+1:=by
    unfold cnt;rw[List.filter_cons,if_pos (by simpa using hx),List.length_cons]
   rw[e,List.take_succ_cons,List.drop_succ_cons];refine⟨fun o ho=> ?_,i2⟩;rcases zV.mp ho with rfl | ho
   ·exact Rat.not_lt.mp hx
   ·exact i1 o ho
theorem WT{l:List Rat}{q:Rat}(h:sI l):sI (jc l q):=by
 obtain⟨h1,h2⟩:=WR (q:=q) h;unfold jc sI;rw[List.pairwise_append];refine⟨h.sublist (List.take_sublist _ _),List.pairwise_cons.mpr ⟨fun o ho=>Rat.le_of_lt (h2 o ho),h.sublist (List.drop_sublist _ _)⟩,fun a ha b hb=> ?_⟩;rcases zV.mp hb with rfl | hb
 ·exact h1 a ha
 ·exact Rat.le_trans (h1 a ha) (Rat.le_of_lt (h2 b hb))
theorem WW(l:List Rat)(q:Rat):(jc l q).Perm (q::l):=by
 unfold jc;refine List.perm_middle.trans ?_;rw[List.take_append_drop]
theorem Oz:∀(qs acc:List Rat),sI acc ->sI (qs.foldl jc acc)/\ (qs.foldl jc acc).Perm (qs++acc)
 | [],acc,h=>⟨h,.refl _⟩
 | q::qs,acc,h=>by
  obtain⟨h1,h2⟩:=Oz qs (jc acc q) (WT h);refine⟨h1,h2.trans ?_⟩;refine(List.Perm.append_left qs (WW acc q)).trans ?_;exact List.perm_middle
theorem zvn(qs:List Rat):sI (qg qs):=(Oz qs [] List.Pairwise.nil).1
theorem OD(qs:List Rat):(qg qs).Perm qs:=by have:=(Oz qs [] List.Pairwise.nil).2;rwa [List.append_nil] at this
theorem zun(qs:List Rat):(qg qs).length=qs.length:=(OD qs).length_eq
def OJ(l:List Rat):Rat:=if l.length % 2=1 then l.getD (l.length/2) 0 else(l.getD (l.length/2 - 1) 0+l.getD (l.length/2) 0)/2
def wd(l:List Rat)(j:Nat):Rat:=l.getD (j+1) 0 - l.getD j 0
structure Best (l:List Rat) (b:Nat):Prop where
 lt:b+1<l.length
 le:∀j,j+1<l.length ->wd l b<=wd l j
 gt:∀j,j+1<l.length ->b<j ->wd l b<wd l j
end L3
namespace HM
abbrev Bd:=Int×Int
def ju(b:Bd)(x:Int):Bool:=decide (b.1<=x)&&decide (x<=b.2)
def jK(S l:List Int)(b:Bd):List Int:=S.filter fun e=>l.any fun s=>ju b (e - s)
def rk(S:List Int)(bs:List Bd):Nat ->List Int
 | 0=> [0]
 | i+1=>jK S (rk S bs i) (bs.getD i (0,0))
def gk(S:List Int)(n:Int)(rb:List Bd):Nat ->List Int
 | 0=> [n]
 | i+1=>S.filter fun e=>(gk S n rb i).any fun one=>ju (rb.getD i (0,0)) (one - e)
def dg(S:List Int)(n:Int):List Int:=S.reverse.map (n - ·)
theorem zsi{S:List Int}{n e:Int}:(n - e)∈dg S n↔e∈S:=by
 unfold dg;rw[List.mem_map];constructor
 ·rintro⟨x,hx,h⟩;obtain rfl:x=e:=by omega
  exact List.mem_reverse.mp hx
 ·exact fun h=>⟨e,List.mem_reverse.mpr h,rfl⟩
theorem dh{S l:List Int}{b:Bd}{e:Int}:e∈jK S l b↔e∈S/\∃s∈l,ju b (e - s)=true:=by
 unfold jK;rw[List.mem_filter,List.any_eq_true]
theorem jL{S:List Int}{n e:Int}{rb:List Bd}{i:Nat}:e∈gk S n rb (i+1)↔e∈S/\∃one∈gk S n rb i,ju (rb.getD i (0,0)) (one - e)=true:=by
 show e∈S.filter _↔_;rw[List.mem_filter,List.any_eq_true]
theorem O1{S:List Int}{n:Int}{rb:List Bd}:∀(i:Nat) (e:Int),e∈gk S n rb i↔ (n - e)∈rk (dg S n) rb i
 | 0,e=>by
  show e∈ [n]↔ (n - e)∈ [0];rw[List.mem_singleton,List.mem_singleton];omega
 | i+1,e=>by
  rw[jL];show _↔ (n - e)∈jK (dg S n) (rk (dg S n) rb i) _;rw[dh,zsi];refine and_congr_right fun _=>⟨fun⟨o,ho,w⟩=>⟨n - o,(O1 i o).mp ho,?_⟩,fun⟨s,hs,w⟩=>⟨n - s,(O1 i (n - s)).mpr ?_,?_⟩⟩
  ·rw[show n - e - (n - o)=o - e by omega];exact w
  ·rw[show n - (n - s)=s by omega];exact hs
  ·rw[show n - s - e=n - e - s by omega];exact w
theorem WX{S:List Int}{n:Int}{rb:List Bd}(hn:n∈S):∀{i:Nat} {e:Int},e∈gk S n rb i ->e∈S
 | 0,e,h=>by rw[List.mem_singleton.mp h];exact hn
 | _+1,_,h=>(jL.mp h).1
theorem zws{S:List Int}{bs:List Bd}(h0:(0:Int)∈S):∀{i:Nat} {e:Int},e∈rk S bs i ->e∈S
 | 0,e,h=>by rw[List.mem_singleton.mp h];exact h0
 | _+1,_,h=>(dh.mp h).1
theorem O2{bs:List Bd}{i:Nat}(h:i<bs.length):bs.reverse.getD (bs.length - (i+1)) (0,0)=bs.getD i (0,0):=by
 rw[List.getD_eq_getElem?_getD,List.getD_eq_getElem?_getD,List.getElem?_reverse (by omega)]
 congr 2
 omega
theorem meet{S:List Int}{n:Int}{bs:List Bd}(h0:(0:Int)∈S)(hn:n∈S):∀i,i<=bs.length ->((∃e∈rk S bs i,e∈gk S n bs.reverse (bs.length - i))↔ (0:Int)∈gk S n bs.reverse bs.length)
 | 0,_=>⟨fun⟨e,h1,h2⟩=>by rw[List.mem_singleton.mp h1] at h2;exact h2,fun h=>⟨0,zT.mpr rfl,h⟩⟩
 | i+1,hi=>by
  rw[<- meet h0 hn i (by omega)]
  have e1:bs.length - i=bs.length - (i+1)+1:=by omega
  constructor
  ·rintro⟨e,h1,h2⟩;obtain⟨_,s,hs,w⟩:=dh.mp h1;refine⟨s,hs,?_⟩;rw[e1,jL];exact⟨zws h0 hs,e,h2,by rw[O2 (by omega)];exact w⟩
  ·rintro⟨e,h1,h2⟩;rw[e1,jL] at h2;obtain⟨_,o,ho,w⟩:=h2;refine⟨o,dh.mpr ⟨WX hn ho,e,h1,?_⟩,ho⟩;rw[O2 (by omega)] at w;exact w
theorem znp{S:List Int}{n:Int}{bs:List Bd}(h0:(0:Int)∈S)(hn:n∈S):n∈rk S bs bs.length↔ (0:Int)∈gk S n bs.reverse bs.length:=by
 rw[<- meet h0 hn bs.length (Nat.le_refl _)];rw[Nat.sub_self];exact⟨fun h=>⟨n,h,zT.mpr rfl⟩,fun⟨e,h1,h2⟩=>by rw[List.mem_singleton.mp h2] at h1;exact h1⟩
def yU:List Int ->Int
 | []=>0
 | [x]=>x
 | x::y::r=>if yU (y::r)<=x then x else yU (y::r)
theorem O3:∀{l:List Int},l≠ [] ->yU l∈l/\∀i∈l,i<=yU l
 | [],h=>absurd rfl h
 | [x],_=>⟨zT.mpr rfl,fun i hi=>by rw[List.mem_singleton.mp hi];exact Int.le_refl _⟩
 | x::y::r,_=>by
  obtain⟨h1,h2⟩:=O3 (l:=y::r) (by simp)
  unfold yU;split
  ·rename_i q;refine⟨zY,fun i hi=> ?_⟩;rcases zV.mp hi with rfl | hi
   ·exact Int.le_refl _
   ·exact Int.le_trans (h2 i hi) q
  ·rename_i q;refine⟨zX _ h1,fun i hi=> ?_⟩;rcases zV.mp hi with rfl | hi
   ·omega
   ·exact h2 i hi
def cand(S:List Int)(n:Int)(bs:List Bd)(k:Nat)(f:Int):List Int:=S.filter fun e=>ju (bs.getD k (0,0)) (e - f)&&(gk S n bs.reverse (bs.length - (k+1))).contains e
def fk(S:List Int)(n:Int)(bs:List Bd):Nat ->Int
 | 0=>0
 | k+1=>yU (cand S n bs k (fk S n bs k))
theorem iD{S:List Int}{n:Int}{bs:List Bd}{k:Nat}{f e:Int}:e∈cand S n bs k f↔e∈S/\ju (bs.getD k (0,0)) (e - f)=true/\e∈gk S n bs.reverse (bs.length - (k+1)):=by
 unfold cand;rw[List.mem_filter,Bool.and_eq_true,List.contains_iff_mem]
theorem O4{S:List Int}{n:Int}{bs:List Bd}(hn:n∈S)(hg:(0:Int)∈gk S n bs.reverse bs.length):∀k,k<=bs.length ->fk S n bs k∈gk S n bs.reverse (bs.length - k)/\ (k<bs.length ->cand S n bs k (fk S n bs k)≠ [])
 | k,hk=>by
  have a:fk S n bs k∈gk S n bs.reverse (bs.length - k):=by
   cases k with
   | zero=>exact hg
   | succ k=>
    have ih:=(O4 hn hg k (by omega)).2 (by omega)
    exact(iD.mp (O3 ih).1).2.2
  refine⟨a,fun h=> ?_⟩;rw[show bs.length - k=bs.length - (k+1)+1 by omega,jL] at a
  obtain⟨_,o,ho,w⟩:=a;rw[O2 h] at w;intro e;have:=iD (S:=S) (n:=n) (bs:=bs) (k:=k) (f:=fk S n bs k) (e:=o) |>.mpr ⟨WX hn ho,w,ho⟩
  rw[e] at this;cases this
theorem WY{S:List Int}{n:Int}{bs:List Bd}(hn:n∈S)(hg:(0:Int)∈gk S n bs.reverse bs.length){k:Nat}(hk:k<bs.length):
  fk S n bs (k+1)∈cand S n bs k (fk S n bs k)/\∀i∈cand S n bs k (fk S n bs k),i<=fk S n bs (k+1):=O3 ((O4 hn hg k (by omega)).2 hk)
theorem zvw{S:List Int}{n:Int}{bs:List Bd}(hn:n∈S)(hg:(0:Int)∈gk S n bs.reverse bs.length):fk S n bs bs.length=n:=by
 have:=(O4 hn hg bs.length (zO _)).1;rw[Nat.sub_self] at this;exact zT.mp this
theorem W0:∀{a b:List Int},a.Pairwise (· < ·) ->b.Pairwise (· < ·) ->(∀i,i∈a↔i∈b) ->a=b
 | [],[],_,_,_=>rfl
 | [],y::b,_,_,h=>absurd ((h y).mpr zY) (by simp)
 | x::a,[],_,_,h=>absurd ((h x).mp zY) (by simp)
 | x::a,y::b,ha,hb,h=>by
  rw[List.pairwise_cons] at ha hb;have e:x=y:=by
   rcases zV.mp ((h x).mp zY) with e | e
   ·exact e
   ·rcases zV.mp ((h y).mpr zY) with e' | e'
    ·exact e'.symm
    ·have:=hb.1 x e;have:=ha.1 y e';omega
  subst e;rw[W0 ha.2 hb.2 fun i=> ?_];constructor
  ·intro hi;rcases zV.mp ((h i).mp (zX _ hi)) with rfl | q
   ·have:=ha.1 i hi;omega
   ·exact q
  ·intro hi;rcases zV.mp ((h i).mpr (zX _ hi)) with rfl | q
   ·have:=hb.1 i hi;omega
   ·exact q
end HM
namespace L3
open PySem L2 HM
local macro_rules | `(tactic| and_intros)=> `(tactic| dsimp only [aG,bU,cC,cV,cB,cT,qI,yF,oh,pA,J7,Bf,cIf,ao,aj,gM,eF,iy,Bh,bM,Bj,eG,bD,eV,hName,ur,kZ,uw,Kh,wC,aP,cU,iB,jr,dG,gH,fC,jq,bN,uz,yI,yJ,Ge,gGe,gIs,Kr,pU,qM,cu,wI,vg,Gh,lu,Br,Gi,wF,Kz,Bq,uF,KN,List.length,List.set_cons_zero,List.set_cons_succ,List.getElem?_cons_zero,List.getElem?_cons_succ,qL,qR,yL,zt2,GC,GD,GF,wQ,mG,c7,qT,qW,qU,GP,uJ,uK,iU,wV,BZ,zsp,zku,Ly,Lz,iL,qP,gQ,BW,mD,List.map,List.append,List.cons_append,List.nil_append])
def zvs(_:Cls):bH:=fun ds P _=>∃i j,ds= [.int i,.int j]/\P (.int (Int.gcd i j))
def zuw(c:Cls):bH:=fun ds P E=>∃i j:Int,ds= [.int i,.int j]/\cP i<=9000/\cP j<=9000/\if j=0 then E (.ref c.gO) else P (qD ((i:Rat)/ (j:Rat)))
def zy9(c:Cls):bH:=fun ds P _=>∃a b:Rat,ds= [qD a,qD b]/\Sz 4000 a/\Sz 4000 b/\P (qD (a+b))
def zx9(c:Cls):bH:=fun ds P _=>∃a b:Rat,ds= [qD a,qD b]/\Sz 4000 a/\Sz 4000 b/\P (qD (a - b))
def zya(c:Cls):bH:=fun ds P _=>∃a b:Rat,ds= [qD a,qD b]/\Sz 4000 a/\Sz 4000 b/\P (qD (a*b))
def zy6(c:Cls):bH:=fun ds P E=>∃a b:Rat,ds= [qD a,qD b]/\Sz 4000 a/\Sz 4000 b/\if b=0 then E (.ref c.gO) else P (qD (a/b))
def Dl(c:Cls):bH:=fun ds P _=>∃a b:Rat,ds= [qD a,qD b]/\Sz 4000 a/\Sz 4000 b/\P (.bl (decide (a<b)))
def zyd(c:Cls):bH:=fun ds P _=>∃qs:List Rat,ds= [.lst (qs.map qD)]/\ (∀q∈qs,Sz 4000 q)/\ (∀k,Sz 4000 (oJ (qs.take k)))/\P (qD (oJ qs))
def zyz(c:Cls):bH:=fun ds P E=>∃qs:List Rat,ds= [.lst (qs.map qD)]/\qs.length<=1000/\ (∀q∈qs,Sz 4000 q)/\ (∀k,Sz 4000 (oJ (qs.take k)))/\if qs= [] then E (.ref c.gO) else P (qD (oJ qs/ (qs.length:Int)))
def zx1(c:Cls):bH:=fun ds P _=>∃qs:List Rat,ds= [.lst (qs.map qD)]/\qs.length<=1000/\ (∀q∈qs,Sz 4000 q)/\P (.lst ((qg qs).map qD))
def sJ:Str:=Str.ofString "mean"
def W2:Str:=Str.ofString "middle"
def sO:Str:=Str.ofString "pair"
def mids(l:List Rat):List Rat:=if l.length % 2=1 then [l.getD (l.length/2) 0] else [l.getD (l.length/2 - 1) 0,l.getD (l.length/2) 0]
def zpk(_:Cls):bH:=fun ds P _=>∃r:Str,ds= [.str r]/\P (.int (if r=sO then 2 else 1))
def zxr(_:Cls):bH:=fun ds P _=>∃l:List Rat,ds= [.lst (l.map qD)]/\1<=l.length/\P (.lst ((mids l).map qD))
def zyb(_:Cls):bH:=fun ds P _=>∃a b:Rat,ds= [.lst [qD a,qD b]]/\Sz 1900 a/\Sz 1900 b/\P (qD (b - a))
def zvr(_:Cls):bH:=fun ds P _=>∃l:List Rat,ds= [.lst (l.map qD)]/\2<=l.length/\l.length<=1000/\ (∀q∈l,Sz 1900 q)/\∀b,Best l b ->P (.lst [qD (l.getD b 0),qD (l.getD (b+1) 0)])
def zy4(c:Cls):bH:=fun ds P E=>∃(l:List Rat) (g:Rat),ds= [.lst (l.map qD),qD g]/\2<=l.length/\l.length<=1000/\ (∀q∈l,Sz 1900 q)/\Sz 4000 g/\
 if l.length=2/\g<wd l 0 then E (.ref c.Apart) else∀b,Best l b ->P (.lst [qD (l.getD b 0),qD (l.getD (b+1) 0)])
def zye(c:Cls):bH:=fun ds P E=>∃(r:Str) (qs:List Rat) (gap:D) (g:Rat),ds= [.str r,.lst (qs.map qD),gap]/\ ((gap= .non/\g=0)\/gap=qD g)/\Sz 4000 g/\qs.length<=1000/\ (∀q∈qs,Sz 1900 q)/\
 (r=sJ\/r=W2\/r=sO)/\ (r=sJ ->∀k,Sz 4000 (oJ (qs.take k)))/\
 if qs.length< (if r=sO then 2 else 1) then E (.ref c.Few)
 else if r=sJ then P (qD (oJ qs/ (qs.length:Int)))
 else if r=W2 then P (qD (OJ (qg qs)))
 else if qs.length=2/\g<wd (qg qs) 0 then E (.ref c.Apart) else∀b,Best (qg qs) b ->P (qD (((qg qs).getD b 0+ (qg qs).getD (b+1) 0)/2))
def lA(ns:List Int)(k:Nat):Int:=if h:k<ns.length then ns[k] else
 let m:Int:=if ns= [] then(k:Int)*7919+5 else(ns.getD ((k*7) % ns.length) 0*48271+ (k:Int)*7919).fmod 2147483647
 (m*m).fmod 2147483629
def vL(_:Cls):bH:=fun ds P _=>∃(ns:List Int) (k:Nat),ds= [.lst (ns.map .int),.int k]/\ns.length<=63/\k<1000/\P (.int (lA ns k))
def zwa(_:Cls):bH:=fun ds P _=>∃(x:D) (f:Rat),ds= [x,qD f]/\ (x= .non\/∃g,x=qD g)/\∀b:Bool,(b=true↔x=qD f) ->P (.bl b)
def Hs(_:Cls):bH:=Gk
def xP(_:Cls):bH:=fun ds P _=>∃(i:Int) (m:Nat),ds= [.int i,.int m]/\m<=1000/\∀xs:List Int,xs.length=m ->(∀x∈xs,0<=x/\x<2147483647) ->P (.lst (xs.map .int))
def vM(_:Cls):bH:=fun ds P _=>∃i j:Int,ds= [.int i,.int j]/\cP i<=9000/\cP j<=9000/\0<j/\P (qD ((i:Rat)/ (j:Rat)))
def yV(c:Cls):bH:=fun ds P _=>∃a b:Rat,ds= [qD a,qD b]/\Sz 4000 a/\Sz 4000 b/\P (qD (a+b))
def zs1(c:Cls):bH:=fun ds P _=>∃a b:Rat,ds= [qD a,qD b]/\Sz 4000 a/\Sz 4000 b/\P (qD (a - b))
def yW(c:Cls):bH:=fun ds P _=>∃a b:Rat,ds= [qD a,qD b]/\Sz 4000 a/\Sz 4000 b/\P (.bl (decide (a<b)))
def Dm(c:Cls):bH:=fun ds P _=>∃qs:List Rat,ds= [.lst (qs.map qD)]/\qs.length<=1000/\ (∀q∈qs,Sz 4000 q)/\P (.lst ((qg qs).map qD))
def Dp(_:Cls):bH:=fun ds P _=>∃i:Int,ds= [.int i]/\0<=i/\i<2147483647/\∀q,Sz 60 q ->P (qD q)
def Dq(_:Cls):bH:=fun ds P _=>∃(ns:List Int) (f m:Nat),ds= [.lst (ns.map .int),.int f,.int m]/\ns.length<=63/\f<100/\m<=60/\∀qs:List Rat,qs.length=m ->(∀q∈qs,Sz (60+4*m) q) ->P (.lst (qs.map qD))
def intD(n:Nat):D:= .int (n:Int)
def j4(qs:List Rat):List Rat:=(qg qs).reverse
def dj(f:List Rat)(k:Nat):Bool:=decide (k+1=f.length) || decide (f.getD (k+1) 0<f.getD k 0)
def bQ(f:List Rat):List Nat:=0::((List.range f.length).filter (dj f)).map (· +1)
def Fall(f:List Rat):Prop:=∀i j,i<=j ->j<f.length ->f.getD j 0<=f.getD i 0
def Dr(_:Cls):bH:=fun ds P _=>∃qs:List Rat,ds= [.lst (qs.map qD)]/\qs.length<=1000/\ (∀q∈qs,Sz 4000 q)/\P (.lst ((bQ (j4 qs)).map intD))
def bJ(l:List Int):D:= .lst (l.map .int)
def eZ(b:Bd):D:= .tup [.int b.1,.int b.2]
def j6(bs:List Bd):D:= .lst (bs.map eZ)
def bY(qs:List Rat)(m:Rat):Nat:=(qs.filter fun x=> !decide (x<m)).length
def aF(qs:List Rat):List Int:=(bQ (j4 qs)).map Int.ofNat
def Last(S:List Int)(n:Int):Prop:=fJ (S.map D.int) (-1)=some (.int n)
def iG(qs:List Rat)(bs:List Bd):Bool:=(gk (aF qs) qs.length bs.reverse bs.length).contains 0
def gA(qs:List Rat)(bs:List Bd):List Int:=(List.range bs.length).map fun k=>fk (aF qs) qs.length bs (k+1)
def yX(_:Cls):bH:=fun ds P _=>∃(x:Int) (b:Bd),ds= [.int x,eZ b]/\P (.bl (ju b x))
def Ds(_:Cls):bH:=fun ds P _=>∃(S l:List Int) (b:Bd),ds= [bJ S,bJ l,eZ b]/\P (bJ (jK S l b))
def xQ(_:Cls):bH:=fun ds P _=>∃(S:List Int) (bs:List Bd),ds= [bJ S,j6 bs]/\bs.length<=1000/\P (.lst ((List.range (bs.length+1)).map fun i=>bJ (rk S bs i)))
def Dt(_:Cls):bH:=fun ds P _=>∃(m:Rat) (qs:List Rat),ds= [qD m,.lst (qs.map qD)]/\Sz 4000 m/\ (∀q∈qs,Sz 4000 q)/\P (.int (bY qs m))
def Du(_:Cls):bH:=fun ds P _=>∃qs:List Rat,ds= [.lst (qs.map qD)]/\qs.length<=61/\ (∀q∈qs,Sz 4000 q)/\P (bJ (aF qs))
def Dv(_:Cls):bH:=fun ds P _=>∃(S:List Int) (n:Int) (bs:List Bd),ds= [bJ S,j6 bs]/\bs.length<=1000/\Last S n/\P (.lst ((List.range bs.length).map fun k=>bJ (rk (dg S n) bs.reverse (bs.length - (k+1)))))
def Dw(_:Cls):bH:=fun ds P _=>∃(S:List Int) (n:Int) (bs:List Bd),ds= [bJ S,j6 bs]/\bs.length<=1000/\Last S n/\n∈S/\ (0:Int)∈gk S n bs.reverse bs.length/\P (bJ ((List.range bs.length).map fun k=>fk S n bs (k+1)))
def aQ(qs:List Rat)(bs:List Bd):List (List Int):=(List.range (bs.length+1)).map fun i=>rk (aF qs) bs i
def tU(ls:List (List Int)):T:= .lst (ls.map fun l=>iZ (l.map .int))
def jM:Str:=Str.ofString "barred"
def qj:Str:=Str.ofString "cuts"
def yZ(_:Cls):nO:=fun ds P _=>∃ls:List (List Int),ds= [.lst (ls.map bJ)]/\P (tU ls)
def Dy(c:Cls):bH:=fun ds P E=>∃(qs:List Rat) (bs:List Bd),ds= [.lst (qs.map qD),j6 bs]/\qs.length<=61/\ (∀q∈qs,Sz 4000 q)/\bs.length<=1000/\ (iG qs bs=true ->P (bJ (gA qs bs)))/\ (iG qs bs=false ->E (.pay c.aL ["reach"] [tU (aQ qs bs)]))
def xR(_:Cls):xK:=fun ds P _=>∃(qs:List Rat) (bs:List Bd),ds= [.lst (qs.map qD),j6 bs]/\qs.length<=61/\ (∀q∈qs,Sz 4000 q)/\bs.length<=1000/\ (iG qs bs=true ->P (.pl (.tup [.str qj,bJ (gA qs bs)])))/\ (iG qs bs=false ->P (.nt jM (tU (aQ qs bs))))
def Dz(_:Cls):bH:=fun ds P _=>∃(S:List Int) (bs:List Bd),ds= [bJ S,j6 bs]/\bs.length<=1000/\S.length<=1000/\P (.lst ((List.range (bs.length+1)).map fun i=>bJ (rk S bs i)))
def xT(_:Cls):bH:=fun ds P _=>∃(qs:List Rat) (bs:List Bd),ds= [.lst (qs.map qD),j6 bs]/\qs.length<=60/\ (∀q∈qs,Sz 4000 q)/\bs.length<=100/\bs≠ []/\P (.bl true)
def DG(_:Cls):nO:=fun ds P _=>∃(ns:List Int) (f m:Nat),ds= [.lst (ns.map .int),.int f,.int m]/\ns.length<=63/\f<100/\m<=60/\∀bs:List Bd,bs≠ [] ->bs.length<=12 ->(∀b∈bs,0<=b.2) ->P (.lst ((bs.map eZ).map .leaf))
def zei(K:W.Frag)(c:Cls):aq:=(qW 2 qU (aj (cV 3) ao))
def zfr(K:W.Frag)(c:Cls):aq:=(aG (bD 3 (cB bN (cB dG (cB fC (cV 3) (cC (.int 48271))) (cC (.int 12345))) (cC (.int 2147483647))))
 (zei K c))
def zgv(K:W.Frag)(c:Cls):aq:=(bM (cV 2))
def zgb(K:W.Frag)(c:Cls):aq:=(aG (lq (aj (cV 1) ao) (hName 4)
 (zfr K c))
 (zgv K c))
def zf9(K:W.Frag)(c:Cls):aq:=(aG (bD 3 (cB bN (cV 0) (cC (.int 2147483647))))
 (zgb K c))
def W3(K:W.Frag)(c:Cls):aq:=(aG (eV 2 (eF ao))
 (zf9 K c))
def zic(K:W.Frag)(c:Cls):aq:=(wC 2 3 (aj (cV 3) (aj (cB bN (cV 2) (cV 3)) ao)))
def zjn(K:W.Frag)(c:Cls):aq:=(bM (gM (aj (cB jq (cV 0) (cV 2)) (aj (cB jq (cV 1) (cV 2)) ao))))
def zj4(K:W.Frag)(c:Cls):aq:=(aG (oA (cT (cB Ge (cV 3) (cC (.int 0))))
 (zic K c))
 (zjn K c))
def zj1(K:W.Frag)(c:Cls):aq:=(aG (bD 3 (cV 1))
 (zj4 K c))
def W4(K:W.Frag)(c:Cls):aq:=(aG (bD 2 (iB Gh (aj (cV 0) ao)))
 (zj1 K c))
def zey(K:W.Frag)(c:Cls):aq:=(bM (aP (vM c) (aj (cB gH (cB bN (cB fC (cB jq (cV 0) (cC (.int 3))) (cC (.int 48271))) (cB uz (cC (.int 10)) (cC (.int 14)))) (cB uz (cC (.int 10)) (cC (.int 13)))) (aj (cB dG (cC (.int 1)) (cB bN (cB jq (cV 0) (cC (.int 3))) (cC (.int 997)))) ao))))
def ze8(K:W.Frag)(c:Cls):aq:=(aG (eG (cT (cB pU (cB bN (cV 0) (cC (.int 3))) (cC (.int 1))))
 (bM (aP (vM c) (aj (cB gH (cB bN (cB jq (cV 0) (cC (.int 3))) (cC (.int 23))) (cC (.int 7))) (aj (cB dG (cC (.int 1)) (cB bN (cB jq (cV 0) (cC (.int 69))) (cC (.int 4)))) ao))))
 bU)
 (zey K c))
def W5(K:W.Frag)(c:Cls):aq:=(aG (eG (cT (cB pU (cB bN (cV 0) (cC (.int 3))) (cC (.int 0))))
 (bM (gM (aj (cB bN (cB jq (cV 0) (cC (.int 3))) (cC (.int 10))) (aj (cC (.int 1)) ao))))
 bU)
 (ze8 K c))
def zh5(K:W.Frag)(c:Cls):aq:=(bM (cB bN (cB fC (cV 2) (cV 2)) (cC (.int 2147483629))))
def zi6(K:W.Frag)(c:Cls):aq:=(aG (eG (cT (cB Ge (iB lu (aj (cV 0) ao)) (cC (.int 0))))
 (bD 2 (cB bN (cB dG (cB fC (cB cu (cV 0) (cB bN (cB fC (cV 1) (cC (.int 7))) (iB lu (aj (cV 0) ao)))) (cC (.int 48271))) (cB fC (cV 1) (cC (.int 7919)))) (cC (.int 2147483647))))
 bU)
 (zh5 K c))
def ziv(K:W.Frag)(c:Cls):aq:=(aG (bD 2 (cB dG (cB fC (cV 1) (cC (.int 7919))) (cC (.int 5))))
 (zi6 K c))
def W6(K:W.Frag)(c:Cls):aq:=(aG (eG (cT (cB yI (cV 1) (iB lu (aj (cV 0) ao))))
 (bM (cB cu (cV 0) (cV 1)))
 bU)
 (ziv K c))
def W7(K:W.Frag)(c:Cls):aq:=(bM (aP (vM c) (aj (cB dG (cB fC (cB cu (cV 0) (cC (.int 0))) (cB cu (cV 1) (cC (.int 1)))) (cB fC (cB cu (cV 1) (cC (.int 0))) (cB cu (cV 0) (cC (.int 1))))) (aj (cB fC (cB cu (cV 0) (cC (.int 1))) (cB cu (cV 1) (cC (.int 1)))) ao))))
def O5(K:W.Frag)(c:Cls):aq:=(qW 3 qU (aj (cV 6) ao))
def W8(K:W.Frag)(c:Cls):aq:=(aG (eG (c7 (qI (cT (cB pU (cB bN (cB cu (cV 5) (cC (.int 1))) (cC (.int 4))) (cC (.int 2)))) (cT (cB qM (cV 3) (iy (eF ao))))))
 (bD 6 (aP (yV c) (aj (qT 3 (cB bN (cB jq (cB cu (cV 5) (cC (.int 1))) (cC (.int 4))) (mG (iB lu (aj (cV 3) ao))))) (aj (cB cu (iy (eF (aj (gM (aj (cC (.int 1)) (aj (cC (.int 1)) ao))) (aj (gM (aj (cU jr (cC (.int 1))) (aj (cC (.int 1)) ao))) (aj (gM (aj (cC (.int 1)) (aj (cC (.int 2)) ao))) (aj (gM (aj (cC (.int 2)) (aj (cC (.int 1)) ao))) ao)))))) (cB bN (cB jq (cB cu (cV 5) (cC (.int 1))) (cC (.int 64))) (cC (.int 4)))) ao))))
 bU)
 (O5 K c))
def zex(K:W.Frag)(c:Cls):aq:=(aG (eG (c7 (qI (cT (cB pU (cB bN (cB cu (cV 5) (cC (.int 1))) (cC (.int 4))) (cC (.int 1)))) (cT (cB qM (cV 3) (iy (eF ao))))))
 (bD 6 (qT 3 (cB bN (cB jq (cB cu (cV 5) (cC (.int 1))) (cC (.int 4))) (mG (iB lu (aj (cV 3) ao))))))
 bU)
 (W8 K c))
def ze0(K:W.Frag)(c:Cls):aq:=(aG (bD 6 (aP (Dp c) (aj (cB cu (cV 5) (cC (.int 0))) ao)))
 (zex K c))
def zgd(K:W.Frag)(c:Cls):aq:=(aG (bD 5 (aP (xP c) (aj (aP (vL c) (aj (cV 0) (aj (cB dG (cV 1) (cV 4)) ao))) (aj (cC (.int 2)) ao))))
 (ze0 K c))
def Ht(K:W.Frag)(c:Cls):aq:=(bM (cV 3))
def zhd(K:W.Frag)(c:Cls):aq:=(aG (lq (aj (cV 2) ao) (hName 4)
 (zgd K c))
 (Ht K c))
def W9(K:W.Frag)(c:Cls):aq:=(aG (eV 3 (eF ao))
 (zhd K c))
def zep(K:W.Frag)(c:Cls):aq:=(Nf 3 (gM (aj (cV 9) (aj (cB dG (cB dG (cV 8) (cB bN (cB cu (cV 7) (cC (.int 2))) (cC (.int 3)))) (cB fC (iB BZ (aj (cB pU (cB bN (cB cu (cV 7) (cC (.int 3))) (cC (.int 8))) (cC (.int 1))) ao)) (cC (.int 5)))) ao))))
def zed(K:W.Frag)(c:Cls):aq:=(aG (bD 9 (iB Br (aj (cC (.int 0)) (aj (cB gH (cV 8) (cB bN (cB cu (cV 7) (cC (.int 1))) (cC (.int 3)))) ao))))
 (zep K c))
def Xa(K:W.Frag)(c:Cls):aq:=(aG (bD 4 (cB gH (cV 4) (cV 8)))
 (zed K c))
def zd4(K:W.Frag)(c:Cls):aq:=(aG (eG (cT (cB pU (cV 6) (cB gH (cV 5) (cC (.int 1)))))
 (bD 8 (cV 4))
 bU)
 (Xa K c))
def zd7(K:W.Frag)(c:Cls):aq:=(aG (bD 8 (cB bN (cB cu (cV 7) (cC (.int 0))) (cB dG (cV 4) (cC (.int 1)))))
 (zd4 K c))
def zfp(K:W.Frag)(c:Cls):aq:=(aG (bD 7 (aP (xP c) (aj (aP (vL c) (aj (cV 0) (aj (cB dG (cB dG (cV 1) (cC (.int 1))) (cV 6)) ao))) (aj (cC (.int 4)) ao))))
 (zd7 K c))
def Xb(K:W.Frag)(c:Cls):aq:=(vC (nV 3))
def O6(K:W.Frag)(c:Cls):aq:=(aG (lq (aj (cV 5) ao) (hName 6)
 (zfp K c))
 (Xb K c))
def zgl(K:W.Frag)(c:Cls):aq:=(aG (bD 5 (cB dG (cC (.int 1)) (cB bN (aP (vL c) (aj (cV 0) (aj (cV 1) ao))) (cC (.int 5)))))
 (O6 K c))
def zgy(K:W.Frag)(c:Cls):aq:=(aG (bD 4 (cV 2))
 (zgl K c))
def Xc(K:W.Frag)(c:Cls):aq:=(aG (vB 3 (Vm (eF ao)))
 (zgy K c))
def zge(K:W.Frag)(c:Cls):aq:=(eG (c7 (cT (cB qM (iy (dZ 1 [3,4,6] (iL (cB cu (cV 2) (cU jr (cC (.int 1))))) (hName 0) (cT (iU yJ yJ (cV 1) (cB gH (cV 3) (cV 0)) (cV 2))) (cV 0))) (iy (eF ao)))))
 (qW 5 qU (aj (cV 6) ao))
 bU)
def ze7(K:W.Frag)(c:Cls):aq:=(qW 2 qU (aj (cV 5) ao))
def zew(K:W.Frag)(c:Cls):aq:=(aG (qJ (cV 0) (hName 6)
 (zge K c))
 (ze7 K c))
def zgx(K:W.Frag)(c:Cls):aq:=(aG (eV 5 (eF ao))
 (zew K c))
def zhj(K:W.Frag)(c:Cls):aq:=(bM (cV 2))
def zhh(K:W.Frag)(c:Cls):aq:=(aG (qJ (cV 1) (uw 2 (kZ (hName 3) (kZ (hName 4) ur)))
 (zgx K c))
 (zhj K c))
def Xd(K:W.Frag)(c:Cls):aq:=(aG (eV 2 (eF (aj (iy (eF (aj (cC (.int 0)) ao))) ao)))
 (zhh K c))
def Xe(K:W.Frag)(c:Cls):aq:=(bM (iU yJ yJ (cB cu (cV 1) (cC (.int 0))) (cV 0) (cB cu (cV 1) (cC (.int 1)))))
def Xf(K:W.Frag)(c:Cls):aq:=(bM (iy (dZ 1 [1,2] (iL (cV 0)) (hName 0) (cT (iB Li (aj (iy (dZ 1 [0,2] (iL (cV 1)) (hName 0) mD (aP (yX c) (aj (cB gH (cV 1) (cV 0)) (aj (cV 2) ao))))) ao))) (cV 0))))
def zlh(K:W.Frag)(c:Cls):aq:=(qW 2 qU (aj (aP (Ds c) (aj (cV 0) (aj (qT 2 (cU jr (cC (.int 1)))) (aj (cV 3) ao)))) ao))
def zng(K:W.Frag)(c:Cls):aq:=(bM (cV 2))
def zm1(K:W.Frag)(c:Cls):aq:=(aG (qJ (cV 1) (hName 3)
 (zlh K c))
 (zng K c))
def Xg(K:W.Frag)(c:Cls):aq:=(aG (eV 2 (eF (aj (iy (eF (aj (cC (.int 0)) ao))) ao)))
 (zm1 K c))
def Xh(K:W.Frag)(c:Cls):gq:=(rR 1 [] (iL (cV 1)) (hName 0) mD (qR yL (aj (cV 0) ao)))
def Xi(K:W.Frag)(c:Cls):aq:=(bM (cB yI (cB fC (cB cu (cV 0) (cC (.int 0))) (cB cu (cV 1) (cC (.int 1)))) (cB fC (cB cu (cV 1) (cC (.int 0))) (cB cu (cV 0) (cC (.int 1))))))
def Xj(K:W.Frag)(c:Cls):aq:=(bM (iB lu (aj (iy (dZ 1 [0] (iL (cV 1)) (hName 0) (oh (cT (aP (Dl c) (aj (cV 0) (aj (cV 1) ao))))) (cV 0))) ao)))
def Xk(K:W.Frag)(c:Cls):aq:=(bM (iy (qR MJ (aj (iy (uJ (iy (eF (aj (cC (.int 0)) ao))) (iy (dZ 1 [0] (iL (cV 0)) (hName 0) mD (aP (Dt c) (aj (cV 0) (aj (cV 1) ao))))))) ao))))
def Xl(K:W.Frag)(c:Cls):aq:=(bM (iy (GF (iy (qR Hg (aj (cV 3) ao))) (GD (cC (.int 1))) GC)))
def ze5(K:W.Frag)(c:Cls):aq:=(aG (bD 3 (aP (xQ c) (aj (cV 2) (aj (iy (qR Hg (aj (cV 1) ao))) ao))))
 (Xl K c))
def Xm(K:W.Frag)(c:Cls):aq:=(aG (bD 2 (iy (dZ 1 [0] (MN (aj (cV 0) ao)) (hName 0) mD (cB gH (cB cu (cV 1) (cU jr (cC (.int 1)))) (cV 0)))))
 (ze5 K c))
def zc6(K:W.Frag)(c:Cls):aq:=(qW 2 qU (aj (iB Lj (aj (iy (dZ 1 [0,4] (iL (cV 5)) (hName 0) (cT (cB (uK false) (cB gH (cB cu (cV 1) (cU jr (cC (.int 1)))) (cV 0)) (cV 2))) (cV 0))) ao)) ao))
def zdz(K:W.Frag)(c:Cls):aq:=(aG (bD 5 (rB (Cj (dZ 1 [2,3] (iL (cV 0)) (hName 0) (cT (aP (yX c) (aj (cB gH (cV 0) (cB cu (cV 1) (cU jr (cC (.int 1))))) (aj (cV 2) ao)))) (cV 0)))))
 (zc6 K c))
def zd2(K:W.Frag)(c:Cls):aq:=(bM (iy (GF (cV 2) (GD (cC (.int 1))) GC)))
def zeh(K:W.Frag)(c:Cls):aq:=(aG (qP (Mh (aj (cV 1) (aj (aP (Dv c) (aj (cV 0) (aj (cV 1) ao))) ao))) (uw 2 (kZ (hName 3) (kZ (hName 4) ur)))
 (zdz K c))
 (zd2 K c))
def Xn(K:W.Frag)(c:Cls):aq:=(aG (eV 2 (eF (aj (cC (.int 0)) ao)))
 (zeh K c))
def zqj(K:W.Frag)(c:Cls):aq:=(bM (aP (Dw c) (aj (cV 2) (aj (cV 1) ao))))
def zp7(K:W.Frag)(c:Cls):aq:=(aG (eG (cT (cB (uK true) (iB lu (aj (cV 0) ao)) (cB cu (cV 3) (cU jr (cC (.int 1))))))
 (N5 c.aL "reach" (yZ c) (aj (cV 3) ao))
 bU)
 (zqj K c))
def zqw(K:W.Frag)(c:Cls):aq:=(aG (bD 3 (aP (xQ c) (aj (cV 2) (aj (cV 1) ao))))
 (zp7 K c))
def Xo(K:W.Frag)(c:Cls):aq:=(aG (bD 2 (aP (Du c) (aj (cV 0) ao)))
 (zqw K c))
def zi7(K:W.Frag)(c:Cls):aq:=(oG 2)
def zir(K:W.Frag)(c:Cls):aq:=(aG (vJ K c.aL 3 (bD 2 (gM (aj (cC (.str (Str.ofString "cuts"))) (aj (aP (Dy c) (aj (cV 0) (aj (cV 1) ao))) ao))))
 (vK c.aL "reach" (Str.ofString "barred") 3 2))
 (zi7 K c))
def Xp(K:W.Frag)(c:Cls):aq:=(aG (bD 2 (cC .non))
 (zir K c))
def Xq(K:W.Frag)(c:Cls):aq:=(bM (cB yI (cB fC (cB cu (cV 0) (cC (.int 0))) (cB cu (cV 1) (cC (.int 1)))) (cB fC (cB cu (cV 1) (cC (.int 0))) (cB cu (cV 0) (cC (.int 1))))))
def zfo(K:W.Frag)(c:Cls):aq:=(bD 3 (cB dG (cV 3) (cC (.int 1))))
def Xr(K:W.Frag)(c:Cls):aq:=(qW 1 GP (aj (cV 3) (aj (cV 2) ao)))
def zeb(K:W.Frag)(c:Cls):aq:=(aG (oA (c7 (qI (cT (cB yI (cV 3) (iB lu (aj (cV 1) ao)))) (oh (cT (aP (yW c) (aj (cV 2) (aj (cB cu (cV 1) (cV 3)) ao)))))))
 (zfo K c))
 (Xr K c))
def zfs(K:W.Frag)(c:Cls):aq:=(aG (bD 3 (cC (.int 0)))
 (zeb K c))
def Xu(K:W.Frag)(c:Cls):aq:=(bM (cV 1))
def zgf(K:W.Frag)(c:Cls):aq:=(aG (qJ (cV 0) (hName 2)
 (zfs K c))
 (Xu K c))
def Xv(K:W.Frag)(c:Cls):aq:=(aG (eV 1 (eF ao))
 (zgf K c))
def zhl(K:W.Frag)(c:Cls):aq:=(eG (yF (cT (cB pU (cB dG (cV 3) (cC (.int 1))) (iB lu (aj (cV 1) ao)))) (cT (aP (yW c) (aj (cB cu (cV 1) (cB dG (cV 3) (cC (.int 1)))) (aj (cB cu (cV 1) (cV 3)) ao)))))
 (qW 2 qU (aj (cB dG (cV 3) (cC (.int 1))) ao))
 bU)
def Xw(K:W.Frag)(c:Cls):aq:=(bM (cV 2))
def ziy(K:W.Frag)(c:Cls):aq:=(aG (lq (aj (iB lu (aj (cV 1) ao)) ao) (hName 3)
 (zhl K c))
 (Xw K c))
def O7(K:W.Frag)(c:Cls):aq:=(aG (eV 2 (eF (aj (cC (.int 0)) ao)))
 (ziy K c))
def Xx(K:W.Frag)(c:Cls):aq:=(aG (bD 1 (iy (wQ (aP (Dm c) (aj (cV 0) ao)))))
 (O7 K c))
def ze9(K:W.Frag)(c:Cls):aq:=(Nf 4 (cU jr (cC (.int 1))))
def Xy(K:W.Frag)(c:Cls):aq:=(aG (eG (c7 (oh (cT (uF "list" (cV 4)))))
 (bM (cC (.bl false)))
 bU)
 (ze9 K c))
def zf6(K:W.Frag)(c:Cls):aq:=(eG (c7 (cT (cB (uK true) (cB cu (cB cu (cV 3) (cC (.int 1))) (cV 5)) (cB cu (cV 2) (cB dG (cV 5) (cC (.int 1)))))))
 (bM (cC (.bl false)))
 bU)
def zhf(K:W.Frag)(c:Cls):aq:=(bM (cC (.bl true)))
def zhc(K:W.Frag)(c:Cls):aq:=(aG (lq (aj (iB lu (aj (cV 1) ao)) ao) (hName 5)
 (zf6 K c))
 (zhf K c))
def Xz(K:W.Frag)(c:Cls):aq:=(aG (eG (c7 (yF (cT (cB qM (cB cu (cV 3) (cC (.int 0))) (cC (.str (Str.ofString "cuts"))))) (yF (cT (cB qM (iB lu (aj (cB cu (cV 3) (cC (.int 1))) ao)) (iB lu (aj (cV 1) ao)))) (cT (cB qM (cB cu (cB cu (cV 3) (cC (.int 1))) (cU jr (cC (.int 1)))) (iB lu (aj (cV 0) ao)))))))
 (bM (cC (.bl false)))
 bU)
 (zhc K c))
def O8(K:W.Frag)(c:Cls):aq:=(aG (eG (cT (cB (uK true) (iB lu (aj (cV 0) ao)) (cB cu (cV 2) (cU jr (cC (.int 1))))))
 (aG (eG (c7 (yF (cT (cB qM (cV 3) (gM (aj (cC (.str (Str.ofString "barred"))) (aj (cV 2) ao))))) (oh (cT (uF "list" (cB cu (cV 3) (cC (.int 1))))))))
 (bM (cC (.bl false)))
 bU)
 (aG (oH 3 4 (Xy K c))
 (bM (cB pU (sG (lJ (xR c) (aj (cV 0) (aj (cV 1) ao)))) (gM (aj (cC (.str (Str.ofString "barred"))) (aj (cV 2) ao)))))))
 bU)
 (Xz K c))
def zdt(K:W.Frag)(c:Cls):aq:=(aG (sy 3 (lJ (xR c) (aj (iy (qR yL (aj (cV 0) ao))) (aj (iy (qR yL (aj (cV 1) ao))) ao))))
 (O8 K c))
def XC(K:W.Frag)(c:Cls):aq:=(aG (bD 2 (aP (Dz c) (aj (aP (Dr c) (aj (cV 0) ao)) (aj (cV 1) ao))))
 (zdt K c))
def XD(K:W.Frag)(c:Cls):aq:=(bM (pA (aP (xT c) (aj (cV 3) (aj (cV 5) ao))) (pA (cB pU (cB cu (sG (lJ (xR c) (aj (cV 3) (aj (cV 5) ao)))) (cC (.int 0))) (cC (.str (Str.ofString "cuts")))) (aP (xT c) (aj (cV 3) (aj (cV 4) ao))))))
def zq7(K:W.Frag)(c:Cls):aq:=(aG (bD 5 (iy (uJ (iy (dZ 1 [] (iL (cV 4)) (hName 0) mD (gM (aj (cC (.int 0)) (aj (cB cu (cV 0) (cC (.int 1))) ao))))) (iy (eF (aj (gM (aj (cC (.int 0)) (aj (cV 2) ao))) ao))))))
 (XD K c))
def O9(K:W.Frag)(c:Cls):aq:=(aG (eG (c7 (oh (cT (aP (xT c) (aj (cV 3) (aj (cV 4) ao))))))
 (bM (cC (.bl false)))
 bU)
 (zq7 K c))
def XF(K:W.Frag)(c:Cls):aq:=(aG (eG (cT (cB pU (cB bN (cB cu (cV 1) (cC (.int 2))) (cC (.int 2))) (cC (.int 1))))
 (Ci 4 (cB bN (cB cu (cV 1) (cC (.int 3))) (mG (iB lu (aj (cV 4) ao)))) (gM (aj (cB bN (cB cu (cV 1) (cC (.int 4))) (cC (.int 5))) (aj (cB bN (cB cu (cV 1) (cC (.int 4))) (cC (.int 5))) ao))))
 bU)
 (O9 K c))
def XH(K:W.Frag)(c:Cls):aq:=(aG (sE 4 (rJ (DG c) (aj (cV 0) (aj (cC (.int 1)) (aj (cV 2) ao)))))
 (XF K c))
def Pa(K:W.Frag)(c:Cls):aq:=(aG (bD 3 (aP (Dq c) (aj (cV 0) (aj (cC (.int 8)) (aj (cV 2) ao)))))
 (XH K c))
def zrz(K:W.Frag)(c:Cls):aq:=(aG (bD 2 (cB fC (iB Gi (aj (cC (.int 16)) (aj (iB Br (aj (cB gH (iB lu (aj (cV 0) ao)) (cC (.int 8))) (aj (cB bN (cB cu (cV 1) (cC (.int 0))) (cC (.int 12))) ao))) ao))) (iB BZ (aj (cB qM (cB bN (cB cu (cV 1) (cC (.int 1))) (cC (.int 9))) (cC (.int 1))) ao))))
 (Pa K c))
def Pb(K:W.Frag)(c:Cls):aq:=(aG (bD 1 (aP (xP c) (aj (aP (vL c) (aj (cV 0) (aj (cC (.int 0)) ao))) (aj (cC (.int 5)) ao))))
 (zrz K c))
theorem zvi{c:Cls}{ds P E}(h:Dl c ds P E):ds.length=2:=by obtain⟨_,_,rfl,_⟩:=h;rfl
theorem mR{j:Int}(h:j.natAbs<2^64):cP j<=9000:=zP (jg h) (by decide)
abbrev fin(Q:D ->Prop):iT:={nx:=fun _=>Q .non,rt:=Q}
theorem zpv{i j:Int}(hj:j≠0):dv i j≠0/\∀n,cP i<=n ->cP j<=n ->cP (dv i j)<=n:=by
 refine⟨Dj hj,fun n h1 h2=>zP (Kq ?_) h2⟩;obtain⟨k,e⟩:=Wv i j;have h:=congrArg Int.natAbs e;rw[Int.natAbs_mul] at h;rw[h];have:k≠0:=fun z=>hj (by rw[e,z,Int.mul_zero])
 exact Nat.le_mul_of_pos_right _ (by omega)
theorem at0{x y:D}:fJ [x,y] 0=some x:=jx (j:=0) rfl
theorem at1{x y:D}:fJ [x,y] 1=some y:=jx (j:=1) rfl
theorem oK{i j:Int}(h1:cP i<=4000)(h2:cP j<=4000):pR i j:= .inr (.inr (by omega))
theorem xU{i j:Int}(h1:cP i<=4000)(h2:cP j<=4000):cP (i*j)<=8000:=by have:=FW i j;omega
theorem Pg{i j:Int}(h1:cP i<=8000)(h2:cP j<=8000):cP (i+j)<=9000:=by have:=Sy i j;omega
theorem up9{i:Int}(h1:cP i<=8000):cP i<=9000:=by omega
theorem ztv{K:W.Frag}{c:Cls}{ds Q Ex}(h:Dl c ds Q Ex):Xi K c (fin Q) (aK 2 ds) fun _=>Ex:=by
 obtain⟨a,b,rfl,⟨a1,a2⟩,⟨b1,b2⟩,h⟩:=h;refine⟨_,at0,_,at1,oK a1 b2,_,at0,_,at1,oK b1 a2,?_⟩;rw[WM] at h;exact h
theorem Ph{n:Nat}(a:List D):fV (n+1) (.lst a) (.lst []):=by
 simp only [fV];intro i x y h1 h2;simp at h2
theorem XJ(a:List Rat):dH (.lst (a.map qD)) (.lst [])=decide (a= []):=by
 cases a<;>simp [dH,bV]
theorem sU:(1000:Nat)<sizeLine:=by decide
theorem xV(i j:Int):dH (.int i) (.int j)=decide (i=j):=by
 rw[Bool.eq_iff_iff];simp [dH]
theorem zmy{c:Cls}{ds P E}(h:vL c ds P E):ds.length=2:=by obtain⟨_,_,rfl,_⟩:=h;rfl
theorem zyr{c:Cls}{ds P E}(h:Hs c ds P E):ds.length=1:=by obtain⟨_,rfl,_⟩:=h;rfl
theorem zni{K:W.Frag}{c:Cls}{ds Q Ex}(h:vL c ds Q Ex):W6 K c (fin Q) (aK 3 ds) fun _=>Ex:=by
 obtain⟨ns,k,rfl,hl,hk,h⟩:=h;show if decide ((k:Int)< ((ns.map D.int).length:Int))=true then _ else _;rw[List.length_map];by_cases hlt:k<ns.length
 ·rw[if_pos (by simpa using hlt)]
  refine⟨.int ns[k],jx (by simp [hlt]),?_⟩
  unfold lA at h;rw[dif_pos hlt] at h;exact h
 ·rw[if_neg (by simpa using hlt)]
  unfold lA at h;rw[dif_neg hlt] at h;have bk:cP (k:Int)<=10:=jg (by simp only [Int.natAbs_natCast];omega)
  refine⟨.inr (.inl (jg (by decide))),?_⟩
  show if decide ((0:Int)< ((ns.map D.int).length:Int))=true then _ else _;rw[List.length_map];have fin2:∀m:Int,m.natAbs<2^40 ->Q (.int ((m*m).fmod 2147483629)) ->pR m m/\ (2147483629:Int)≠0/\Q (.int ((m*m).fmod 2147483629)):=fun m hm hq=>
   ⟨.inl (zP (jg hm) (by decide)),by decide,hq⟩
  by_cases he:ns= []
  ·subst he;rw[if_neg (by simp)]
   rw[if_pos rfl] at h;exact fin2 _ (by omega) h
  ·have hp:0<ns.length:=(by cases ns with | nil=>exact absurd rfl he | cons _ _=>exact Nat.succ_pos _)
   rw[if_pos (by simpa using hp)]
   rw[if_neg he] at h;refine⟨.inr (.inl (jg (by decide))),show((ns.map D.int).length:Int)≠0 by rw[List.length_map];omega,?_⟩
   have hm:((k:Int)*7).fmod ((ns.map D.int).length:Int)=((k*7 % ns.length:Nat):Int):=by
    rw[List.length_map,Int.fmod_eq_emod_of_nonneg _ (by omega),Int.natCast_emod,Int.natCast_mul]
    rfl
   and_intros
   rw[hm];have hlt2:k*7 % ns.length<ns.length:=Nat.mod_lt _ hp;refine⟨.int (ns.getD (k*7 % ns.length) 0),jx (by simp [List.getElem?_map,List.getD_eq_getElem?_getD,hlt2]),?_⟩
   refine⟨.inr (.inl (jg (by decide))),.inr (.inl (jg (by decide))),by decide,?_⟩
   refine fin2 _ ?_ h;have h1:=Wu (a:=ns.getD (k*7 % ns.length) 0*48271+ (k:Int)*7919) (b:=2147483647) (by decide)
   exact Nat.lt_trans h1 (by decide)
theorem zj2{c:Cls}{ds P E}(h:xP c ds P E):ds.length=2:=by obtain⟨_,_,rfl,_⟩:=h;rfl
theorem zql{c:Cls}{ds P E}(h:vM c ds P E):ds.length=2:=by obtain⟨_,_,rfl,_⟩:=h;rfl
theorem znj{c:Cls}{ds P E}(h:yV c ds P E):ds.length=2:=by obtain⟨_,_,rfl,_⟩:=h;rfl
theorem zm9{c:Cls}{ds P E}(h:yW c ds P E):ds.length=2:=by obtain⟨_,_,rfl,_⟩:=h;rfl
theorem zjd{c:Cls}{ds P E}(h:Dm c ds P E):ds.length=1:=by obtain⟨_,rfl,_⟩:=h;rfl
theorem zha{c:Cls}{ds P E}(h:Dp c ds P E):ds.length=1:=by obtain⟨_,rfl,_⟩:=h;rfl
theorem zkj{c:Cls}{ds P E}(h:Dq c ds P E):ds.length=3:=by obtain⟨_,_,_,rfl,_⟩:=h;rfl
theorem ql{i m:Int}(hm:0<m):0<=i.fmod m/\i.fmod m<m:=by
 rw[Int.fmod_eq_emod_of_nonneg _ (by omega)]
 exact⟨Int.emod_nonneg _ (by omega),Int.emod_lt_of_pos _ hm⟩
theorem zja{K:W.Frag}{c:Cls}{ds Q Ex}(h:xP c ds Q Ex):W3 K c (fin Q) (aK 5 ds) fun _=>Ex:=by
 obtain⟨i,m,rfl,hm,h⟩:=h;refine⟨Nat.zero_le _,show(2147483647:Int)≠0 by decide,⟨by omega,by omega⟩,fun k Γ=>∃(xs:List Int) (n:Int) (y:Slot),Γ= [.pu (.int i),.pu (.int m),.ow (xs.map .int),.pu (.int n),y]/\xs.length=k/\ (∀x∈xs,0<=x/\x<2147483647)/\0<=n/\n<2147483647,⟨[],_,_,rfl,rfl,(fun _ z=>by cases z),(ql (i:=i) (m:=2147483647) (by decide)).1,(ql (i:=i) (m:=2147483647) (by decide)).2⟩,?_,?_⟩
 ·rintro k _ hk ⟨xs,n,y,rfl,hl,hx,n0,n1⟩;have:=ql (i:=n*48271+12345) (m:=2147483647) (by decide)
  refine⟨.inr (.inl (jg (by decide))),show(2147483647:Int)≠0 by decide,⟨_,rfl⟩,by rw[List.length_map];have:=sU;omega,xs++ [(n*48271+12345).fmod 2147483647],_,_,by rw[List.map_append];rfl,by simp [hl],fun x hm=> ?_,this.1,this.2⟩
  rcases zU.mp hm with hm | hm
  ·exact hx x hm
  ·simp only [List.mem_singleton] at hm;subst hm;exact this
 ·rintro _ ⟨xs,n,y,rfl,hl,hx,_⟩;exact h xs (by rw[hl];simp) hx
theorem zod{K:W.Frag}{c:Cls}{ds Q Ex}(h:vM c ds Q Ex):W4 K c (fin Q) (aK 4 ds) fun _=>Ex:=by
 obtain⟨i,j,rfl,b1,b2,hj,h⟩:=h;have hj0:j≠0:=by omega
 rw[<- WQ hj0] at h;refine⟨fun m Γ=>∃a b:Int,Γ= [.pu (.int i),.pu (.int j),.pu (.int a),.pu (.int b)]/\0<=a/\0<=b/\m=b.natAbs/\Int.gcd a b=Int.gcd i j,⟨_,(if i<0 then -i else i),j,rfl,by split<;>omega,by omega,rfl,?_⟩,?_⟩
 ·have e1:(if i<0 then -i else i)=(i.natAbs:Int):=by split<;>omega
  rw[e1];simp [Int.gcd]
 rintro m _ ⟨a,b,rfl,ha,hb,rfl,hg⟩;show if decide (0<b)=true then _ else _;by_cases hz:0<b
 ·rw[if_pos (by simpa using hz)]
  have h0:b≠0:=by omega
  refine⟨h0,_,Wu h0,b,a.fmod b,rfl,hb,?_,rfl,by rw[zrh,hg]⟩
  rw[Int.fmod_eq_emod_of_nonneg _ hb];exact Int.emod_nonneg _ h0
 ·rw[if_neg (by simpa using hz)]
  have:b=0:=by omega
  subst this;rw[Int.gcd_zero_right] at hg;have e:a=dv i j:=by unfold dv;rw[if_neg (by omega)];omega
  obtain⟨d0,d1⟩:=zpv (i:=i) hj0;subst e;exact⟨⟨d0,d1 _ b1 b2⟩,⟨d0,d1 _ b1 b2⟩,by show(2:Nat)<=sizeLine;decide,h⟩
theorem zlb(a b:Rat):(0:Int)<a.den*b.den:=Int.mul_pos (by have:=a.den_pos;omega) (by have:=b.den_pos;omega)
theorem zm6{K:W.Frag}{c:Cls}{ds Q Ex}(h:yV c ds Q Ex):W7 K c (fin Q) (aK 2 ds) fun _=>Ex:=by
 obtain⟨a,b,rfl,⟨a1,a2⟩,⟨b1,b2⟩,h⟩:=h;refine⟨_,at0,_,at1,oK a1 b2,_,at0,_,at1,oK b1 a2,_,at1,_,at1,oK a2 b2,_,_,rfl,Pg (xU a1 b2) (xU b1 a2),up9 (xU a2 b2),zlb a b,?_⟩;rw[<- WL];exact h
theorem zm4{K:W.Frag}{c:Cls}{ds Q Ex}(h:yW c ds Q Ex):Xq K c (fin Q) (aK 2 ds) fun _=>Ex:=by
 obtain⟨a,b,rfl,⟨a1,a2⟩,⟨b1,b2⟩,h⟩:=h;refine⟨_,at0,_,at1,oK a1 b2,_,at0,_,at1,oK b1 a2,?_⟩;rw[WM] at h;exact h
theorem zjy{K:W.Frag}{c:Cls}{ds Q Ex}(h:Dm c ds Q Ex):Xv K c (fin Q) (aK 4 ds) fun _=>Ex:=by
 obtain⟨qs,rfl,hl,hz,h⟩:=h;refine⟨Nat.zero_le _,fun i Γ=>∃(l:List Rat) (x y:Slot),Γ= [.pu (.lst (qs.map qD)),.ow (l.map qD),x,y]/\l=(qs.take i).foldl jc []/\l.Perm (qs.take i)/\sI l,⟨[],_,_,rfl,rfl,by simp,List.Pairwise.nil⟩,?_,?_⟩
 ·rintro i d _ hi ⟨l,x,y,rfl,hl',hp,hs⟩;rw[List.getElem?_map] at hi;cases q:qs[i]? with
  | none=>rw[q] at hi;cases hi
  | some a=>
   rw[q] at hi;cases hi;have hil:i<qs.length:=(zW.mp q).1;have llen:l.length=i:=by rw[hp.length_eq,List.length_take];omega
   have lz:∀o∈l,Sz 4000 o:=fun o ho=>hz o (List.mem_of_mem_take (hp.mem_iff.mp ho));have az:Sz 4000 a:=hz a (List.mem_of_getElem? q);have last:∀k:Nat,k<=l.length ->cnt a l=k ->Xr K c {fin Q with nx:=fun Γ=>∃(l:List Rat) (x y:Slot),Γ= [.pu (.lst (qs.map qD)),.ow (l.map qD),x,y]/\l=(qs.take (i+1)).foldl jc []/\l.Perm (qs.take (i+1))/\sI l,ct:=fun Γ=>∃(l:List Rat) (x y:Slot),Γ= [.pu (.lst (qs.map qD)),.ow (l.map qD),x,y]/\l=(qs.take (i+1)).foldl jc []/\l.Perm (qs.take (i+1))/\sI l,bk:=fun Γ' =>Xu K c (fin Q) Γ' fun _=>Ex} [.pu (.lst (qs.map qD)),.ow (l.map qD),.pu (qD a),.pu (.int k)] fun _=>Ex:=by
    intro k hk hc;refine⟨⟨_,rfl⟩,by omega,by rw[List.length_map];omega,by rw[List.length_map];have:=sU;omega,jc l a,.pu (qD a),.pu (.int k),?_,?_,?_,WT hs⟩
    ·show [_,Slot.ow (wR (l.map qD) (Int.toNat (k:Int)) (qD a)),_,_]=_;unfold wR jc;rw[Int.toNat_natCast,List.map_append,List.map_cons,List.map_take,List.map_drop,hc]
    ·rw[List.take_add_one,q,List.foldl_append,<- hl'];rfl
    ·rw[List.take_add_one,q];refine(WW l a).trans ?_;refine(hp.cons a).trans ?_;exact List.perm_append_singleton a _ |>.symm
   refine⟨fun m Γ=>∃k:Nat,Γ= [.pu (.lst (qs.map qD)),.ow (l.map qD),.pu (qD a),.pu (.int k)]/\k<=l.length/\m=l.length - k/\∀j (h:j<l.length),j<k ->¬a<l[j],⟨_,0,rfl,Nat.zero_le _,rfl,fun j _ hj=>by omega⟩,?_⟩
   rintro m _ ⟨k,rfl,hk,rfl,hlt⟩;show if decide ((k:Int)< (((l.map qD).length:Nat):Int))=true then _ else _;rw[List.length_map];by_cases hkl:k<l.length
   ·rw[if_pos (by simpa using hkl)]
    refine⟨qD l[k],jx (by simp [hkl]),a,l[k],rfl,az,lz _ (zH hkl),?_⟩
    show if (!decide (a<l[k]))=true then _ else _;by_cases hw:a<l[k]
    ·rw[if_neg (by simpa using hw)]
     exact last k hk (Ox hs hk hlt fun _=>hw)
    ·rw[if_pos (by simpa using hw)]
     refine⟨l.length - (k+1),by omega,k+1,rfl,by omega,rfl,fun j hj hjk=> ?_⟩
     by_cases ej:j=k
     ·subst ej;exact hw
     ·exact hlt j hj (by omega)
   ·rw[if_neg (by simpa using hkl)]
    obtain rfl:k=l.length:=by omega
    exact last _ (zO _) (Ox hs (zO _) hlt fun h=>absurd h (zG _))
 ·rintro _ ⟨l,x,y,rfl,hl',hp,hs⟩;have e:l=qg qs:=by rw[hl',List.length_map,List.take_length];rfl
  subst e;exact h
theorem zhe{K:W.Frag}{c:Cls}{ds Q Ex}(h:Dp c ds Q Ex):W5 K c (fin Q) (aK 1 ds) fun _=>Ex:=by
 obtain⟨i,rfl,hi0,hi1,h⟩:=h;have last:∀t b:Int,t.natAbs<2^58 ->1<=b ->b<=1000 ->vM c [.int t,.int b] Q Ex:=fun t b h1 h2 h3=>by
  have e1:cP t<=60:=zP (jg h1) (by decide)
  have e2:cP b<=60:=zP (jg (k:=10) (by omega)) (by decide)
  exact⟨t,b,rfl,by omega,by omega,by omega,h _ (Ow (by omega) e1 e2)⟩
 refine⟨show(3:Int)≠0 by decide,by simp [fV],?_⟩
 rw[xV];show if decide (i.fmod 3=0)=true then _ else _;split
 ·have:=ql (i:=i.fdiv 3) (m:=10) (by decide)
  refine⟨⟨show(3:Int)≠0 by decide,mR (by decide)⟩,show(10:Int)≠0 by decide,by show(2:Nat)<=sizeLine;decide,?_⟩
  have:=h (((i.fdiv 3).fmod 10:Int):Rat) (zx5 (zP (jg (k:=10) (by omega)) (by decide)) (by decide))
  rwa [zx2] at this
 ·refine⟨show(3:Int)≠0 by decide,by simp [fV],?_⟩
  rw[xV];show if decide (i.fmod 3=1)=true then _ else _;split
  ·have h1:=ql (i:=i.fdiv 3) (m:=23) (by decide)
   have h2:=ql (i:=i.fdiv 69) (m:=4) (by decide)
   exact⟨⟨show(3:Int)≠0 by decide,mR (by decide)⟩,show(23:Int)≠0 by decide,⟨show(69:Int)≠0 by decide,mR (by decide)⟩,show(4:Int)≠0 by decide,last _ _ (by omega) (by omega) (by omega)⟩
  ·have h1:=ql (i:=i.fdiv 3*48271) (m:=10^14) (by decide)
   have h2:=ql (i:=i.fdiv 3) (m:=997) (by decide)
   exact⟨⟨show(3:Int)≠0 by decide,mR (by decide)⟩,.inr (.inl (jg (by decide))),show ud 10 14 from ⟨by decide,by decide,by decide⟩,show(10^14:Int)≠0 by decide,show ud 10 13 from ⟨by decide,by decide,by decide⟩,⟨show(3:Int)≠0 by decide,mR (by decide)⟩,show(997:Int)≠0 by decide,
    last _ _ (show((i.fdiv 3*48271).fmod (10^14) - 10^13).natAbs<2^58 by omega) (by omega) (by omega)⟩
theorem zwd{a b:Int}(hb:0<b)(h:Int.gcd a b=1):D.tup [.int a,.int b]=qD ((a:Rat)/ (b:Rat)):=by
 rw[<- WQ (by omega),Wy hb h]
theorem DK{i:Int}{n:Nat}(h:0<n):∃k:Nat,i.fmod (n:Int)=(k:Int)/\k<n:=by
 have:=ql (i:=i) (m:=(n:Int)) (by omega)
 exact⟨(i.fmod (n:Int)).toNat,by omega,by omega⟩
theorem zk9{K:W.Frag}{c:Cls}{ds Q Ex}(h:Dq c ds Q Ex):W9 K c (fin Q) (aK 7 ds) fun _=>Ex:=by
 obtain⟨ns,f,m,rfl,hn,hf,hm,h⟩:=h;refine⟨Nat.zero_le _,⟨by omega,by omega⟩,fun k Γ=>∃(qs:List Rat) (x y z:Slot),Γ= [.pu (.lst (ns.map .int)),.pu (.int f),.pu (.int m),.ow (qs.map qD),x,y,z]/\qs.length=k/\∀q∈qs,Sz (60+4*k) q,⟨[],_,_,_,rfl,rfl,fun _ z=>by cases z⟩,?_,?_⟩
 ·rintro k _ hk ⟨qs,x,y,z,rfl,hl,hz⟩;have hk' :k<m:=by simpa using hk
  have hlm:qs.length<=60:=by omega
  refine⟨ns,f+k,by show [D.lst _,D.int ((f:Int)+ (0+ (k:Int)))]=_;rw[show(f:Int)+ (0+ (k:Int))=((f+k:Nat):Int) by omega],hn,by omega,_,2,rfl,by decide,fun xs hx hb=> ?_⟩
  match xs,hx with
  | [u,v],_=>
   have hu:=hb u (by simp)
   have hv:=hb v (by simp)
   refine⟨_,at0,u,rfl,hu.1,hu.2,fun q sq=> ?_⟩;have xW:∀p:Rat,Sz (60+4* (k+1)) p ->O5 K c {fin Q with nx:=fun Γ=>∃(qs:List Rat) (x y z:Slot),Γ= [.pu (.lst (ns.map .int)),.pu (.int f),.pu (.int m),.ow (qs.map qD),x,y,z]/\qs.length=k+1/\∀q∈qs,Sz (60+4* (k+1)) q,ct:=fun Γ=>∃(qs:List Rat) (x y z:Slot),Γ= [.pu (.lst (ns.map .int)),.pu (.int f),.pu (.int m),.ow (qs.map qD),x,y,z]/\qs.length=k+1/\∀q∈qs,Sz (60+4* (k+1)) q,bk:=fun Γ' =>Ht K c (fin Q) Γ' fun _=>Ex} [.pu (.lst (ns.map .int)),.pu (.int f),.pu (.int m),.ow (qs.map qD),.pu (.int (0+ (k:Int))),.pu (.lst [.int u,.int v]),.pu (qD p)] fun _=>Ex:=by
    intro p sp;refine⟨⟨_,rfl⟩,by rw[List.length_map];have:=sU;omega,qs++ [p],_,_,_,by rw[List.map_append];rfl,by simp [hl],fun o ho=> ?_⟩
    rcases zU.mp ho with ho | ho
    ·exact(hz o ho).up (by omega)
    ·simp only [List.mem_singleton] at ho;subst ho;exact sp
   have third:∀p:Rat,Sz (60+4* (k+1)) p ->W8 K c {fin Q with nx:=fun Γ=>∃(qs:List Rat) (x y z:Slot),Γ= [.pu (.lst (ns.map .int)),.pu (.int f),.pu (.int m),.ow (qs.map qD),x,y,z]/\qs.length=k+1/\∀q∈qs,Sz (60+4* (k+1)) q,ct:=fun Γ=>∃(qs:List Rat) (x y z:Slot),Γ= [.pu (.lst (ns.map .int)),.pu (.int f),.pu (.int m),.ow (qs.map qD),x,y,z]/\qs.length=k+1/\∀q∈qs,Sz (60+4* (k+1)) q,bk:=fun Γ' =>Ht K c (fin Q) Γ' fun _=>Ex} [.pu (.lst (ns.map .int)),.pu (.int f),.pu (.int m),.ow (qs.map qD),.pu (.int (0+ (k:Int))),.pu (.lst [.int u,.int v]),.pu (qD p)] fun _=>Ex:=by
    intro p sp;refine⟨_,at1,show(4:Int)≠0 by decide,by simp [fV],?_⟩
    rw[xV];by_cases e1:v.fmod 4=2
    ·rw[decide_eq_true e1];refine⟨Nat.zero_le _,Ph _,?_⟩;rw[XJ];by_cases e2:qs= []
     ·rw[decide_eq_true e2];exact xW p sp
     ·rw[decide_eq_false e2];have hpos:0<qs.length:=List.length_pos_iff.mpr e2;obtain⟨j,ej,hj⟩:=DK (i:=v.fdiv 4) hpos;refine⟨⟨_,rfl⟩,_,at1,⟨show(4:Int)≠0 by decide,mR (by decide)⟩,trivial,?_⟩
      show(((qs.map qD).length:Nat):Int)≠0/\_;rw[List.length_map];refine⟨by omega,?_⟩
      show∃d,fJ (qs.map qD) ((v.fdiv 4).fmod (qs.length:Int))=some d/\_;rw[ej];refine⟨qD qs[j],jx (by simp [hj]),by show(2:Nat)<=sizeLine;decide,by show(2:Nat)<=sizeLine;decide,by show(2:Nat)<=sizeLine;decide,by show(2:Nat)<=sizeLine;decide,by show(4:Nat)<=sizeLine;decide,?_⟩
      obtain⟨t,et,ht⟩:=DK (i:=v.fdiv 64) (n:=4) (by decide)
      refine⟨_,at1,⟨show(64:Int)≠0 by decide,mR (by decide)⟩,show(4:Int)≠0 by decide,?_⟩
      show∃d,fJ [D.tup [.int 1,.int 1],.tup [.int (-1),.int 1],.tup [.int 1,.int 2],.tup [.int 2,.int 1]] ((v.fdiv 64).fmod 4)=some d/\_;have et' :(v.fdiv 64).fmod 4=(t:Int):=et;rw[et'];have sj:=(hz _ (zH hj)).up (show 60+4*k<=4000 by omega)
      have step:∀(o:Rat) (d:D),d=qD o ->Sz 2 o ->yV c [qD qs[j],d] (fun d=>O5 K c {fin Q with nx:=fun Γ=>∃(qs:List Rat) (x y z:Slot),Γ= [.pu (.lst (ns.map .int)),.pu (.int f),.pu (.int m),.ow (qs.map qD),x,y,z]/\qs.length=k+1/\∀q∈qs,Sz (60+4* (k+1)) q,ct:=fun Γ=>∃(qs:List Rat) (x y z:Slot),Γ= [.pu (.lst (ns.map .int)),.pu (.int f),.pu (.int m),.ow (qs.map qD),x,y,z]/\qs.length=k+1/\∀q∈qs,Sz (60+4* (k+1)) q,bk:=fun Γ' =>Ht K c (fin Q) Γ' fun _=>Ex} [.pu (.lst (ns.map .int)),.pu (.int f),.pu (.int m),.ow (qs.map qD),.pu (.int (0+ (k:Int))),.pu (.lst [.int u,.int v]),.pu d] fun _=>Ex) Ex:=by
       rintro o d rfl so;exact⟨_,o,rfl,sj,so.up (by decide),xW _ ((zw6 (hz _ (zH hj)) so).up (by omega))⟩
      have ht4:t=0\/t=1\/t=2\/t=3:=by omega
      rcases ht4 with rfl | rfl | rfl | rfl
      ·exact⟨_,jx (j:=0) rfl,step 1 _ rfl ⟨jg (by decide),jg (by decide)⟩⟩
      ·exact⟨_,jx (j:=1) rfl,step (-1) _ rfl ⟨jg (by decide),jg (by decide)⟩⟩
      ·exact⟨_,jx (j:=2) rfl,step (((1:Int):Rat)/ ((2:Int):Rat)) _ (zwd (by decide) (by decide)) (Ow (by decide) (jg (by decide)) (jg (by decide)))⟩
      ·exact⟨_,jx (j:=3) rfl,step 2 _ rfl ⟨jg (by decide),jg (by decide)⟩⟩
    ·rw[decide_eq_false e1];exact xW p sp
   refine⟨_,at1,show(4:Int)≠0 by decide,by simp [fV],?_⟩
   rw[xV];by_cases e1:v.fmod 4=1
   ·rw[decide_eq_true e1];refine⟨Nat.zero_le _,Ph _,?_⟩;rw[XJ];by_cases e2:qs= []
    ·rw[decide_eq_true e2];exact third q (sq.up (by omega))
    ·rw[decide_eq_false e2];have hpos:0<qs.length:=List.length_pos_iff.mpr e2;obtain⟨j,ej,hj⟩:=DK (i:=v.fdiv 4) hpos;refine⟨⟨_,rfl⟩,_,at1,⟨show(4:Int)≠0 by decide,mR (by decide)⟩,trivial,?_⟩
     show(((qs.map qD).length:Nat):Int)≠0/\_;rw[List.length_map];refine⟨by omega,?_⟩
     show∃d,fJ (qs.map qD) ((v.fdiv 4).fmod (qs.length:Int))=some d/\_;rw[ej];exact⟨qD qs[j],jx (by simp [hj]),third _ ((hz _ (zH hj)).up (by omega))⟩
   ·rw[decide_eq_false e1];exact third q (sq.up (by omega))
 ·rintro _ ⟨qs,x,y,z,rfl,hl,hz⟩;have e:(m:Int).toNat=m:=by omega
  rw[e] at hl hz;exact h qs hl hz
theorem zno{c:Cls}{ds P E}(h:Dr c ds P E):ds.length=1:=by obtain⟨_,rfl,_⟩:=h;rfl
theorem Pj(qs:List Rat):(j4 qs).length=qs.length:=by unfold j4;rw[List.length_reverse,zun]
theorem XM{qs:List Rat}{q:Rat}(h:q∈j4 qs):q∈qs:=(OD qs).mem_iff.mp (List.mem_reverse.mp h)
theorem zev{α:Type}{l:List α}{i:Nat}{d:α}(h:i<l.length):l.getD i d=l[i]:=by simp [h]
theorem Pk{α:Type}{l:List α}{i:Nat}{d:α}(h:i<l.length):l.getD i d∈l:=by rw[zev h];exact zH h
theorem zrw(qs:List Rat):Fall (j4 qs):=by
 intro i j hij hj;have hi:i< (j4 qs).length:=by omega
 rw[zev hj,zev hi];unfold j4 at*;rw[List.getElem_reverse,List.getElem_reverse];by_cases e:i=j
 ·subst e;exact Rat.le_refl
 ·rw[List.length_reverse] at hj;exact List.pairwise_iff_getElem.mp (zvn qs) _ _ (by omega) (by omega) (by omega)
theorem XQ{α:Type}(f:α ->Bool):∀l:List α,mF (l.map fun x=>D.bl (f x))=some (l.map f)
 | []=>rfl
 | x::l=>by show(mF (l.map fun x=>D.bl (f x))).map _=_;rw[XQ];rfl
theorem DN(l:List Rat){j:Nat}(h:j<l.length):fJ (l.map qD) (j:Int)=some (qD (l.getD j 0)):=jx (by rw[List.getElem?_map,List.getElem?_eq_getElem h,zev h];rfl)
theorem znn{K:W.Frag}{c:Cls}{ds Q Ex}(h:Dr c ds Q Ex):Xx K c (fin Q) (aK 4 ds) fun _=>Ex:=by
 obtain⟨qs,rfl,hl,hz,h⟩:=h;refine⟨qs,rfl,hl,hz,?_⟩;show O7 K c (fin Q) [.pu (.lst (qs.map qD)),.pu (.lst ((qg qs).map qD).reverse),.no,.no] fun _=>Ex;rw[<- List.map_reverse]
 change O7 K c (fin Q) [.pu (.lst (qs.map qD)),.pu (.lst ((j4 qs).map qD)),.no,.no] fun _=>Ex
 have fl:=Pj qs;have fz:∀q∈j4 qs,Sz 4000 q:=fun q hq=>hz q (XM hq);have s1:=sU;generalize hf:j4 qs=f at*;refine⟨by show(1:Nat)<=sizeLine;decide,?_⟩
 show((-(2^62):Int)<=(((f.map qD).length:Nat):Int)/\_)/\pQ 0 (Int.toNat (((f.map qD).length:Nat):Int)) _ _ _ _ _;rw[List.length_map,Int.toNat_natCast];refine⟨⟨by omega,by omega⟩,fun k Γ=>∃(x:Slot),Γ= [.pu (.lst (qs.map qD)),.pu (.lst (f.map qD)),.ow ((0::((List.range k).filter (dj f)).map (· +1)).map intD),x],⟨_,rfl⟩,?_,?_⟩
 ·rintro k _ hk ⟨x,rfl⟩;have hlen:((List.range k).filter (dj f)).length<=k:=by
   have:=List.length_filter_le (dj f) (List.range k)
   rwa [List.length_range] at this
  have yes:dj f k=true ->qW 2 qU (aj (cB dG (cV 3) (cC (.int 1))) ao) {fin Q with nx:=fun Γ=>∃(x:Slot),Γ= [.pu (.lst (qs.map qD)),.pu (.lst (f.map qD)),.ow ((0::((List.range (k+1)).filter (dj f)).map (· +1)).map intD),x],ct:=fun Γ=>∃(x:Slot),Γ= [.pu (.lst (qs.map qD)),.pu (.lst (f.map qD)),.ow ((0::((List.range (k+1)).filter (dj f)).map (· +1)).map intD),x],bk:=fun Γ=>Xw K c (fin Q) Γ fun _=>Ex} [.pu (.lst (qs.map qD)),.pu (.lst (f.map qD)),.ow ((0::((List.range k).filter (dj f)).map (· +1)).map intD),.pu (.int (0+ (k:Int)))] fun _=>Ex:=by
   intro he;refine⟨⟨_,rfl⟩,by simp only [List.length_map,List.length_cons];omega,.pu (.int (0+ (k:Int))),?_⟩
   have e:((0::((List.range (k+1)).filter (dj f)).map (· +1)).map intD)=((0::((List.range k).filter (dj f)).map (· +1)).map intD)++ [.int (0+ (k:Int)+1)]:=by
    rw[List.range_succ,List.filter_append,List.filter_cons,if_pos he];simp [intD,List.map_append]
   rw[e];rfl
  have no:dj f k=false ->∃(x:Slot),[Slot.pu (.lst (qs.map qD)),.pu (.lst (f.map qD)),.ow ((0::((List.range k).filter (dj f)).map (· +1)).map intD),.pu (.int (0+ (k:Int)))]= [.pu (.lst (qs.map qD)),.pu (.lst (f.map qD)),.ow ((0::((List.range (k+1)).filter (dj f)).map (· +1)).map intD),x]:=by
   intro he;have e:(List.range (k+1)).filter (dj f)=(List.range k).filter (dj f):=by
    rw[List.range_succ,List.filter_append,List.filter_cons,if_neg (by rw[he];decide)]
    simp
   rw[e];exact⟨_,rfl⟩
  refine⟨by simp [fV],?_⟩
  rw[xV];show if decide (0+ (k:Int)+1=(((f.map qD).length:Nat):Int))=true then _ else _;rw[List.length_map];by_cases h1:k+1=f.length
  ·rw[if_pos (by simp;omega)]
   exact yes (by unfold dj;simp [h1])
  ·rw[if_neg (by simp;omega)]
   have e1:(0+ (k:Int)+1)=((k+1:Nat):Int):=by omega
   have e2:(0+ (k:Int))=((k:Nat):Int):=by omega
   show∃d,fJ (f.map qD) (0+ (k:Int)+1)=some d/\∃d',fJ (f.map qD) (0+ (k:Int))=some d' /\_;rw[e1,e2,DN f (show k+1<f.length by omega),DN f hk]
   refine⟨_,rfl,_,rfl,f.getD (k+1) 0,f.getD k 0,rfl,fz _ (Pk (by omega)),fz _ (Pk hk),?_⟩
   have eb:dj f k=decide (f.getD (k+1) 0<f.getD k 0):=by unfold dj;simp [h1]
   cases hw:decide (f.getD (k+1) 0<f.getD k 0) with
   | true=>
    have:=yes (eb.trans hw);rw[e2] at this;exact this
   | false=>
    have:=no (eb.trans hw);rw[e2] at this;exact this
 ·rintro _ ⟨x,rfl⟩;exact h
theorem zpr(f:List Rat):(bQ f).getD ((bQ f).length - 1) 0=f.length/\0< (bQ f).length:=by
 refine⟨?_,by unfold bQ;simp⟩
 cases hn:f.length with
 | zero=>unfold bQ;rw[hn];rfl
 | succ n=>
  have e:bQ f=(0::((List.range n).filter (dj f)).map (· +1))++ [n+1]:=by
   unfold bQ;rw[hn,List.range_succ,List.filter_append,List.filter_cons,if_pos (by unfold dj;simp [hn])]
   simp
  rw[e,List.length_append,List.length_singleton,Nat.add_sub_cancel,List.getD_eq_getElem?_getD,List.getElem?_append_right (Nat.le_refl _)];simp
theorem zkr{c:Cls}{ds P E}(h:yX c ds P E):ds.length=2:=by obtain⟨_,_,rfl,_⟩:=h;rfl
theorem zqp{c:Cls}{ds P E}(h:Ds c ds P E):ds.length=3:=by obtain⟨_,_,_,rfl,_⟩:=h;rfl
theorem zvm{c:Cls}{ds P E}(h:xQ c ds P E):ds.length=2:=by obtain⟨_,_,rfl,_⟩:=h;rfl
theorem zro{c:Cls}{ds P E}(h:yZ c ds P E):ds.length=1:=by obtain⟨_,rfl,_⟩:=h;rfl
theorem zib{c:Cls}{ds P E}(h:Dt c ds P E):ds.length=2:=by obtain⟨_,_,rfl,_⟩:=h;rfl
theorem zv2{c:Cls}{ds P E}(h:Du c ds P E):ds.length=1:=by obtain⟨_,rfl,_⟩:=h;rfl
theorem zhg{c:Cls}{ds P E}(h:Dv c ds P E):ds.length=2:=by obtain⟨_,_,_,rfl,_⟩:=h;rfl
theorem zga{c:Cls}{ds P E}(h:Dw c ds P E):ds.length=2:=by obtain⟨_,_,_,rfl,_⟩:=h;rfl
theorem zwe{c:Cls}{ds P E}(h:Dy c ds P E):ds.length=2:=by obtain⟨_,_,rfl,_⟩:=h;rfl
theorem znf{c:Cls}{ds P E}(h:xR c ds P E):ds.length=2:=by obtain⟨_,_,rfl,_⟩:=h;rfl
theorem zkc{c:Cls}{ds P E}(h:Dz c ds P E):ds.length=2:=by obtain⟨_,_,rfl,_⟩:=h;rfl
theorem zk0{c:Cls}{ds P E}(h:xT c ds P E):ds.length=2:=by obtain⟨_,_,rfl,_⟩:=h;rfl
theorem zj3{c:Cls}{ds P E}(h:DG c ds P E):ds.length=3:=by obtain⟨_,_,_,rfl,_⟩:=h;rfl
theorem xX{α:Type}{one:D ->(List D ->Prop) ->Prop}(f:α ->D)(p:α ->Bool):∀{l:List α} {P:List D ->Prop},(∀a∈l,∀P:List D ->Prop,(if p a=true then P [f a] else P []) ->one (f a) P) ->P ((l.filter p).map f) ->cL one (l.map f) P
 | [],_,_,h=>h
 | a::l,P,k,h=>by
  refine k a zY _ ?_;by_cases q:p a=true
  ·rw[if_pos q];rw[List.filter_cons,if_pos q] at h;exact xX f p (fun b hb=>k b (zX _ hb)) h
  ·rw[if_neg q];rw[List.filter_cons,if_neg q] at h;exact xX f p (fun b hb=>k b (zX _ hb)) h
theorem DP{α:Type}{one:D ->(List D ->Prop) ->Prop}(f g:α ->D):∀{l:List α} {P:List D ->Prop},(∀a∈l,∀P:List D ->Prop,P [g a] ->one (f a) P) ->P (l.map g) ->cL one (l.map f) P
 | [],_,_,h=>h
 | a::l,P,k,h=>k a zY _ (DP f g (fun b hb=>k b (zX _ hb)) h)
theorem zki{K:W.Frag}{c:Cls}{ds Q Ex}(h:yX c ds Q Ex):Xe K c (fin Q) (aK 2 ds) fun _=>Ex:=by
 obtain⟨x,b,rfl,h⟩:=h;refine⟨_,rfl,?_⟩;show if decide (b.1<=x)=true then(∃d,fJ [D.int b.1,.int b.2] 1=some d/\_) else _;by_cases q:b.1<=x
 ·rw[if_pos (by simpa using q)]
  refine⟨_,rfl,?_⟩;have e:ju b x=decide (x<=b.2):=by unfold ju;simp [q]
  rw[e] at h;exact h
 ·rw[if_neg (by simpa using q)]
  have e:ju b x=false:=by unfold ju;simp [q]
  rw[e] at h;exact h
theorem zwo{α:Type}(l:List α)(f:α ->Bool):(l.map f).any id=l.any f:=by rw[List.any_map];rfl
theorem zn9{K:W.Frag}{c:Cls}{ds Q Ex}(h:Ds c ds Q Ex):Xf K c (fin Q) (aK 3 ds) fun _=>Ex:=by
 obtain⟨S,l,b,rfl,h⟩:=h;show cL _ (S.map D.int) _;refine xX D.int (fun e=>l.any fun s=>ju b (e - s)) (fun e he P hp=> ?_) h;show cL _ (l.map D.int) _;refine DP D.int (fun s=> .bl (ju b (e - s))) (fun s hs P' hp' =>⟨e - s,b,rfl,hp'⟩) ?_;refine⟨l.map fun s=>ju b (e - s),XQ _ l,?_⟩;rw[zwo];show if (l.any fun s=>ju b (e - s))=true then P [.int e] else P [];split
 ·rename_i q;rw[if_pos q] at hp;exact hp
 ·rename_i q;rw[if_neg q] at hp;exact hp
theorem oM{n:Nat}{f:Nat ->D}:fJ ((List.range (n+1)).map f) (-1)=some (f n):=by
 unfold fJ;have e:nW ((List.range (n+1)).map f).length (-1)=some n:=by
  unfold nW;rw[List.length_map,List.length_range,if_neg (by decide),if_pos (by omega)]
  congr 1
  omega
 rw[e];show((List.range (n+1)).map f)[n]?=_;rw[List.getElem?_map,List.getElem?_range (by omega)];rfl
theorem zuq{K:W.Frag}{c:Cls}{ds Q Ex}(h:xQ c ds Q Ex):Xg K c (fin Q) (aK 4 ds) fun _=>Ex:=by
 obtain⟨S,bs,rfl,hl,h⟩:=h;have s1:=sU;refine⟨by show(1:Nat)<=sizeLine;decide,by show(1:Nat)<=sizeLine;decide,?_⟩
 refine⟨fun i Γ=>∃x,Γ= [.pu (bJ S),.pu (j6 bs),.ow ((List.range (i+1)).map fun j=>bJ (rk S bs j)),x],⟨_,rfl⟩,?_,?_⟩
 ·rintro i d _ hi ⟨x,rfl⟩;have hi' :i<bs.length:=by
   have:=(zW.mp hi).1
   rwa [List.length_map] at this
  rw[List.getElem?_map,List.getElem?_eq_getElem hi'] at hi;cases hi;have eb:bs.getD i (0,0)=bs[i]:=by simp [hi']
  refine⟨⟨_,rfl⟩,⟨_,rfl⟩,_,oM,S,rk S bs i,bs[i],rfl,?_⟩;refine⟨by rw[List.length_map,List.length_range];omega,.pu (eZ bs[i]),?_⟩
  show [Slot.pu (bJ S),.pu (j6 bs),.ow (_++ [bJ (jK S (rk S bs i) bs[i])]),.pu (eZ bs[i])]=_;rw[List.range_succ (n:=i+1),List.map_append,<- eb]
  rfl
 ·rintro _ ⟨x,rfl⟩;rw[List.length_map];exact h
theorem XR{α:Type}{one:D ->(List (List D) ->Prop) ->Prop}(f:α ->D)(g:α ->List D):∀{l:List α} {P:List (List D) ->Prop},(∀a∈l,∀P:List (List D) ->Prop,P [g a] ->one (f a) P) ->P (l.map g) ->jJ one (l.map f) P
 | [],_,_,h=>h
 | a::l,P,k,h=>k a zY _ (XR f g (fun b hb=>k b (zX _ hb)) h)
theorem zrd{K:W.Frag}{c:Cls}{a:Addr}{ds Q Ex}(h:yZ c ds Q Ex):Xh K c (aK 2 (.ptr a::ds)) (fun t Γ' =>Γ'[0]?=some (.pu (.ptr a))/\Q t) fun _=>Ex:=by
 obtain⟨ls,rfl,h⟩:=h;show jJ _ (ls.map bJ) _;refine XR bJ (fun l=>l.map D.int) (fun l hl P hp=>hp) ⟨rfl,?_⟩;rw[List.map_map];exact h
theorem zie{K:W.Frag}{c:Cls}{ds Q Ex}(h:Dt c ds Q Ex):Xj K c (fin Q) (aK 2 ds) fun _=>Ex:=by
 obtain⟨m,qs,rfl,hm,hz,h⟩:=h;show cL _ (qs.map qD) _;refine xX qD (fun x=> !decide (x<m)) (fun x hx P hp=>⟨x,m,rfl,hz x hx,hm,?_⟩) ?_
 ·show if (!decide (x<m))=true then P [qD x] else P [];split
  ·rename_i q;rw[if_pos q] at hp;exact hp
  ·rename_i q;rw[if_neg q] at hp;exact hp
 ·show Q (.int (((qs.filter _).map qD).length:Nat));rw[List.length_map];exact h
theorem zp6{x:Rat}{xs:List Rat}(h:Fall (x::xs)):Fall xs/\∀j,j<xs.length ->xs.getD j 0<=x:=
 ⟨fun i j hij hj=>by have:=h (i+1) (j+1) (by omega) (by simpa using hj);simpa using this,fun j hj=>by have:=h 0 (j+1) (by omega) (by simpa using hj);simpa using this⟩
theorem XS{m:Rat}:∀{xs:List Rat},(∀j,j<xs.length ->xs.getD j 0<m) ->bY xs m=0
 | [],_=>rfl
 | x::xs,h=>by
  unfold bY;have h0:=h 0 (by simp)
  rw[List.filter_cons,if_neg (by simpa using h0)]
  exact XS fun j hj=>by have:=h (j+1) (by simpa using hj);simpa using this
theorem za{m:Rat}:∀{f:List Rat},Fall f ->∀j,j<f.length ->(m<=f.getD j 0↔j<bY f m)
 | [],_,j,hj=>by simp at hj
 | x::xs,hf,j,hj=>by
  obtain⟨h1,h2⟩:=zp6 hf;by_cases q:m<=x
  ·have e:bY (x::xs) m=bY xs m+1:=by
    unfold bY;rw[List.filter_cons,if_pos (by simpa [Rat.not_lt] using q)]
    rfl
   rw[e]
   match j,hj with
   | 0,_=>simpa using q
   | j+1,hj=>
    have:=za (m:=m) h1 j (by simpa using hj)
    rw[List.getD_cons_succ,this];omega
  ·have lt:∀j,j<xs.length ->xs.getD j 0<m:=fun j hj=>Rat.not_le.mp fun z=>q (Rat.le_trans z (h2 j hj));have e:bY (x::xs) m=0:=by
    unfold bY;rw[List.filter_cons,if_neg (by simpa [Rat.not_lt] using q)]
    exact XS lt
   rw[e]
   match j,hj with
   | 0,_=>simpa using q
   | j+1,hj=>
    have:=lt j (by simpa using hj)
    rw[List.getD_cons_succ];constructor
    ·intro z;exact absurd this (Rat.not_lt.mpr z)
    ·intro z;omega
theorem X3(f:List Rat)(m:Rat):bY f m<=f.length:=by unfold bY;exact List.length_filter_le _ _
theorem X4{a b:List Rat}(h:a.Perm b)(m:Rat):bY a m=bY b m:=by unfold bY;exact(h.filter _).length_eq
theorem Pn(qs:List Rat):(j4 qs).Perm qs:=(List.reverse_perm _).trans (OD qs)
theorem zsn{f:List Rat}(hf:Fall f)(e:Nat):e∈bQ f↔e=0\/∃m∈f,e=bY f m:=by
 unfold bQ;rw[List.mem_cons];refine or_congr_right ?_;rw[List.mem_map];constructor
 ·rintro⟨k,hk,rfl⟩;obtain⟨h1,h2⟩:=List.mem_filter.mp hk;have hk:=List.mem_range.mp h1;refine⟨f.getD k 0,Pk hk,?_⟩;have a:=(za (m:=f.getD k 0) hf k hk).mp Rat.le_refl;have le:=X3 f (f.getD k 0);unfold dj at h2;simp only [Bool.or_eq_true,decide_eq_true_eq] at h2;rcases h2 with h2 | h2
  ·omega
  ·by_cases q:k+1<f.length
   ·have:¬k+1<bY f (f.getD k 0):=fun z=>Rat.not_le.mpr h2 ((za (m:=f.getD k 0) hf (k+1) q).mpr z);omega
   ·omega
 ·rintro⟨m,hm,rfl⟩;obtain⟨i,hi,rfl⟩:=List.mem_iff_getElem.mp hm;have hi' :=(za (m:=f[i]) hf i hi).mp (by rw[zev hi];exact Rat.le_refl)
  have le:=X3 f f[i];refine⟨bY f f[i] - 1,List.mem_filter.mpr ⟨List.mem_range.mpr (by omega),?_⟩,by omega⟩
  unfold dj;simp only [Bool.or_eq_true,decide_eq_true_eq];by_cases q:bY f f[i]=f.length
  ·left;omega
  ·right;rw[show bY f f[i] - 1+1=bY f f[i] by omega]
   have a:¬f[i]<=f.getD (bY f f[i]) 0:=fun z=>absurd ((za (m:=f[i]) hf (bY f f[i]) (by omega)).mp z) (zG _)
   have b:=(za (m:=f[i]) hf (bY f f[i] - 1) (by omega)).mpr (by omega)
   exact Rat.not_le.mp fun z=>a (Rat.le_trans b z)
theorem lB{qs:List Rat}{i:Int}:i∈aF qs↔i∈0::qs.map fun m=>(bY qs m:Int):=by
 unfold aF;rw[List.mem_map,List.mem_cons,List.mem_map];have key:=zsn (zrw qs);constructor
 ·rintro⟨e,he,rfl⟩;rcases(key e).mp he with rfl | ⟨m,hm,rfl⟩
  ·left;rfl
  ·right;exact⟨m,XM hm,by rw[X4 (Pn qs)];rfl⟩
 ·rintro(rfl | ⟨m,hm,rfl⟩)
  ·exact⟨0,(key 0).mpr (.inl rfl),rfl⟩
  ·exact⟨bY qs m,(key _).mpr (.inr ⟨m,(Pn qs).mem_iff.mpr hm,(X4 (Pn qs) m).symm⟩),rfl⟩
theorem zok(qs:List Rat):(aF qs).Pairwise (· < ·):=by
 unfold aF bQ;rw[List.map_cons,List.pairwise_cons,List.map_map];refine⟨fun i hi=> ?_,?_⟩
 ·obtain⟨k,_,rfl⟩:=List.mem_map.mp hi;show(0:Int)<Int.ofNat (k+1);exact Int.ofNat_lt.mpr (Nat.succ_pos k)
 ·rw[List.pairwise_map];refine(List.Pairwise.filter _ (List.pairwise_lt_range)).imp fun{a b} h=> ?_;show Int.ofNat (a+1)<Int.ofNat (b+1);exact Int.ofNat_lt.mpr (by omega)
theorem Pq:∀l:List Int,eY (l.map .int)=some l
 | []=>rfl
 | n::l=>by show(eY (l.map .int)).map _=_;rw[Pq];rfl
theorem zxa{K:W.Frag}{c:Cls}{ds Q Ex}(h:Du c ds Q Ex):Xk K c (fin Q) (aK 1 ds) fun _=>Ex:=by
 obtain⟨qs,rfl,hl,hz,h⟩:=h;have s1:=sU;refine⟨by show(1:Nat)<=sizeLine;decide,?_⟩
 show cL _ (qs.map qD) _;refine DP qD (fun m=> .int (bY qs m)) (fun m hm P hp=>⟨m,qs,rfl,hz m hm,hz,hp⟩) ?_;refine⟨by show 1+ (qs.map fun m=>D.int (bY qs m)).length<=sizeLine;rw[List.length_map];omega,?_⟩
 refine⟨0::qs.map fun m=>(bY qs m:Int),?_,?_,fun ms hp hm=> ?_⟩
 ·have:=Pq (0::qs.map fun m=>(bY qs m:Int));rw[List.map_cons,List.map_map] at this;exact this
 ·rw[List.length_cons,List.length_map];omega
 ·obtain rfl:ms=aF qs:=W0 hp (zok qs) fun i=>(hm i).trans lB.symm;exact h
theorem zv3(bs:List Bd):(bs.map eZ).reverse=bs.reverse.map eZ:=by rw[List.map_reverse]
theorem zuh{n:Nat}{f:Nat ->D}:((List.range (n+1)).map f).reverse=(List.range (n+1)).map fun i=>f (n - i):=by
 apply List.ext_getElem
 ·simp
 ·intro i h1 h2;simp only [List.length_reverse,List.length_map,List.length_range] at h1;rw[List.getElem_reverse];simp
theorem DQ(xs:List D):cutD xs (some 1) none=xs.drop 1:=by
 unfold cutD HT.sIx;dsimp only;rw[if_neg (by decide)]
 cases xs with
 | nil=>rfl
 | cons x xs=>
  rw[show min (Int.toNat 1) (x::xs).length=1 by simp]
  simp
theorem X5{n:Nat}{f:Nat ->D}:((List.range (n+1)).map f).drop 1=(List.range n).map fun i=>f (i+1):=by
 rw[List.range_succ_eq_map,List.map_cons,List.drop_one,List.tail_cons,List.map_map]
 rfl
theorem zhk{K:W.Frag}{c:Cls}{ds Q Ex}(h:Dv c ds Q Ex):Xm K c (fin Q) (aK 4 ds) fun _=>Ex:=by
 obtain⟨S,n,bs,rfl,hl,hn,h⟩:=h;show cL _ (S.map D.int).reverse _;rw[<- List.map_reverse];refine DP D.int (fun e=> .int (n - e)) (fun e he P hp=>⟨_,hn,hp⟩) ?_;have eb:(S.reverse.map fun e=>D.int (n - e))=(dg S n).map .int:=by unfold dg;rw[List.map_map];rfl
 rw[eb];show xQ c [bJ (dg S n),.lst (bs.map eZ).reverse] (fun d=>Xl K c (fin Q) [.pu (bJ S),.pu (j6 bs),.pu (bJ (dg S n)),.pu d] fun _=>Ex) Ex;rw[zv3];refine⟨dg S n,bs.reverse,rfl,by rw[List.length_reverse];exact hl,?_⟩
 rw[List.length_reverse];show Q (.lst (cutD ((List.range (bs.length+1)).map _).reverse (some 1) none));rw[DQ,zuh,X5];exact h
theorem zwm{n:Nat}(f g:Nat ->D):mH ((List.range n).map f) ((List.range n).map g)=(List.range n).map fun i=> .tup [f i,g i]:=by
 unfold mH;apply List.ext_getElem
 ·simp
 ·intro i h1 h2;simp
theorem zxu(bs:List Bd):bs.map eZ=(List.range bs.length).map fun k=>eZ (bs.getD k (0,0)):=by
 apply List.ext_getElem
 ·simp
 ·intro i h1 h2;simp only [List.length_map] at h1;simp [h1]
theorem X6:∀l:List Int,gh (l.map D.int)
 | []=>by simp [gh]
 | i::l=>by
  rw[List.map_cons];unfold gh;exact⟨by simp [iV],X6 l⟩
theorem DR(x:Int)(l:List Int):inD (.int x) (l.map .int)=l.contains x:=by
 unfold inD;rw[List.any_map,<- List.any_beq']
 congr 1
theorem DW(l:List Int):(l.map D.int).all qX=true:=by
 rw[List.all_map,List.all_eq_true];exact fun _ _=>rfl
theorem zf3{K:W.Frag}{c:Cls}{ds Q Ex}(h:Dw c ds Q Ex):Xn K c (fin Q) (aK 6 ds) fun _=>Ex:=by
 obtain⟨S,n,bs,rfl,hl,hn,nS,hg,h⟩:=h;have s1:=sU;refine⟨by show(1:Nat)<=sizeLine;decide,?_⟩
 refine⟨S,n,bs,rfl,hl,hn,?_⟩;show lg (mH (bs.map eZ) ((List.range bs.length).map fun k=>bJ (rk (dg S n) bs.reverse (bs.length - (k+1))))) _ _ _ _ _;rw[zxu,zwm];refine⟨fun k Γ=>∃x y z,Γ= [.pu (bJ S),.pu (j6 bs),.ow ((List.range (k+1)).map fun j=> .int (fk S n bs j)),x,y,z],⟨_,_,_,rfl⟩,?_,?_⟩
 ·rintro k d _ hk ⟨x,y,z,rfl⟩;have hk' :k<bs.length:=by
   have:=(zW.mp hk).1
   rwa [List.length_map,List.length_range] at this
  rw[List.getElem?_map,List.getElem?_range hk'] at hk;cases hk;refine⟨rfl,rfl,?_⟩;show cL _ (S.map D.int) _;refine xX D.int (fun e=>ju (bs.getD k (0,0)) (e - fk S n bs k)) (fun e he P hp=>⟨_,oM,e - fk S n bs k,bs.getD k (0,0),rfl,?_⟩) ?_
  ·show if ju (bs.getD k (0,0)) (e - fk S n bs k)=true then P [.int e] else P [];split
   ·rename_i q;rw[if_pos q] at hp;exact hp
   ·rename_i q;rw[if_neg q] at hp;exact hp
  refine⟨X6 _,⟨_,rfl⟩,?_⟩;show cL _ ((S.filter fun e=>ju (bs.getD k (0,0)) (e - fk S n bs k)).map D.int) _;refine xX D.int (fun e=>(rk (dg S n) bs.reverse (bs.length - (k+1))).contains (n - e)) (fun e he P hp=>⟨_,hn,rfl,DW _,?_⟩) ?_
  ·show if inD (.int (n - e)) ((rk (dg S n) bs.reverse (bs.length - (k+1))).map .int)=true then P [.int e] else P [];rw[DR];split
   ·rename_i q;rw[if_pos q] at hp;exact hp
   ·rename_i q;rw[if_neg q] at hp;exact hp
  obtain⟨m1,m2⟩:=WY nS hg hk';have mm:∀e,e∈ ((S.filter fun e=>ju (bs.getD k (0,0)) (e - fk S n bs k)).filter fun e=>(rk (dg S n) bs.reverse (bs.length - (k+1))).contains (n - e))↔e∈cand S n bs k (fk S n bs k):=fun e=>by
   rw[List.mem_filter,List.mem_filter,iD,List.contains_iff_mem,O1,and_assoc]
  refine⟨_,fk S n bs (k+1),Pq _,(mm _).mpr m1,fun i hi=>m2 i ((mm i).mp hi),by rw[List.length_map,List.length_range];omega,?_⟩
  show∃x y z,_= [Slot.pu (bJ S),.pu (j6 bs),.ow ((List.range (k+1+1)).map fun j=>D.int (fk S n bs j)),x,y,z];rw[List.range_succ (n:=k+1),List.map_append];exact⟨_,_,_,rfl⟩
 ·rintro _ ⟨x,y,z,rfl⟩;rw[List.length_map,List.length_range];show Q (.lst (cutD ((List.range (bs.length+1)).map _) (some 1) none));rw[DQ,X5];have e:(List.range bs.length).map (fun i=>D.int (fk S n bs (i+1)))=((List.range bs.length).map fun k=>fk S n bs (k+1)).map .int:=by rw[List.map_map];rfl
  rw[e];exact h
theorem vN(qs:List Rat):(0:Int)∈aF qs:=lB.mpr zY
theorem Hu(qs:List Rat):Last (aF qs) qs.length/\ (qs.length:Int)∈aF qs:=by
 obtain⟨e1,e2⟩:=zpr (j4 qs);rw[Pj] at e1;have hlt:(bQ (j4 qs)).length - 1< (bQ (j4 qs)).length:=by omega
 rw[zev hlt] at e1;refine⟨?_,?_⟩
 ·unfold Last fJ aF;have e:nW (((bQ (j4 qs)).map Int.ofNat).map D.int).length (-1)=some ((bQ (j4 qs)).length - 1):=by
   unfold nW;rw[List.length_map,List.length_map,if_neg (by decide),if_pos (by omega)]
   congr 1
   omega
  rw[e];show(((bQ (j4 qs)).map Int.ofNat).map D.int)[(bQ (j4 qs)).length - 1]?=_;rw[List.getElem?_map,List.getElem?_map,List.getElem?_eq_getElem hlt,e1]
  rfl
 ·unfold aF;rw[List.mem_map];exact⟨qs.length,by rw[<- e1];exact zH hlt,rfl⟩
theorem Hv(qs:List Rat)(bs:List Bd):(rk (aF qs) bs bs.length).contains (qs.length:Int)=iG qs bs:=by
 unfold iG;have:=znp (bs:=bs) (vN qs) (Hu qs).2;rw[Bool.eq_iff_iff,List.contains_iff_mem,List.contains_iff_mem];exact this
theorem zv1{K:W.Frag}{c:Cls}{ds Q Ex}(h:Dy c ds Q Ex):Xo K c (fin Q) (aK 4 ds) fun _=>Ex:=by
 obtain⟨qs,bs,rfl,hl,hz,hb,h1,h2⟩:=h;refine⟨qs,rfl,hl,hz,aF qs,bs,rfl,hb,?_⟩;show∃d,fJ ((List.range (bs.length+1)).map fun i=>bJ (rk (aF qs) bs i)) (-1)=some d/\_;refine⟨_,oM,rfl,DW _,?_⟩;show if (!inD (.int (((qs.map qD).length:Nat):Int)) ((rk (aF qs) bs bs.length).map .int))=true then _ else _;rw[List.length_map,DR,Hv];by_cases g:iG qs bs=true
 ·rw[if_neg (by rw[g];decide)]
  obtain⟨k1,k2⟩:=Hu qs;exact⟨aF qs,qs.length,bs,rfl,hb,k1,k2,List.contains_iff_mem.mp g,h1 g⟩
 ·have g' :iG qs bs=false:=by simpa using g
  rw[if_pos (by rw[g'];rfl)]
  exact⟨by show(1:Nat)<=sizeLine;decide,aQ qs bs,by unfold aQ;rw[List.map_map];rfl,h2 g'⟩
structure Pr (K:W.Frag) (c:Cls):Prop where
 ok:jA K c.aL
 f2:cZ K c.aL c.aL=true
theorem zm5{K:W.Frag}{c:Cls}{ds Q Ex}(F:Pr K c)(h:xR c ds Q Ex):Xp K c (xM Q) (aK 4 ds) fun _=>Ex:=by
 obtain⟨qs,bs,rfl,hl,hz,hb,h1,h2⟩:=h;refine⟨qs,bs,rfl,hl,hz,hb,fun g=>⟨by show(2:Nat)<=sizeLine;decide,h1 g⟩,fun g=>⟨c.aL,_,_,rfl,F.ok,F.f2,fun as=>⟨as,_,rfl,h2 g⟩⟩⟩
theorem zy0{b:Bd}{x:Int}{R:Bool ->Prop}(h:R (ju b x)):if decide (b.1<=x)=true then R (decide (x<=b.2)) else R false:=by
 unfold ju at h;by_cases q:b.1<=x
 ·rw[if_pos (by simpa using q)]
  simpa [q] using h
 ·rw[if_neg (by simpa using q)]
  simpa [q] using h
theorem zrk(a:List Int):dH (.lst (a.map D.int)) (.lst [])=decide (a= []):=by
 cases a<;>simp [dH,bV]
theorem zns{α:Type}(l:List α)(p:α ->Bool):(!decide (l.filter p= []))=l.any p:=by
 rw[Bool.eq_iff_iff,List.any_eq_true];simp only [Bool.not_eq_true',decide_eq_false_iff_not,List.filter_eq_nil_iff];constructor
 ·intro h;exact Classical.byContradiction fun z=>h fun a ha q=>z ⟨a,ha,q⟩
 ·rintro⟨a,ha,q⟩ h;exact h a ha q
theorem zxw{n:Nat}(a b:List Int):fV (n+1) (bJ a) (bJ b):=by
 unfold bJ;simp only [fV];intro i x y h1 h2;rw[List.getElem?_map] at h1 h2;cases q1:a[i]? with
 | none=>rw[q1] at h1;cases h1
 | some u=>
  cases q2:b[i]? with
  | none=>rw[q2] at h2;cases h2
  | some v=>
   rw[q1] at h1;rw[q2] at h2;cases h1;cases h2;cases n<;>simp [fV]
theorem X7{n:Nat}{f:Nat ->D}{i:Nat}(h:i<n):fJ ((List.range n).map f) (i:Int)=some (f i):=jx (by rw[List.getElem?_map,List.getElem?_range h];rfl)
theorem zlf{K:W.Frag}{c:Cls}{ds Q Ex}(h:Dz c ds Q Ex):Xd K c (fin Q) (aK 7 ds) fun _=>Ex:=by
 obtain⟨S,bs,rfl,hl,hS,h⟩:=h;have s1:=sU;refine⟨by show(1:Nat)<=sizeLine;decide,by show(1:Nat)<=sizeLine;decide,?_⟩
 show lg (bs.map eZ) _ _ _ _ _;refine⟨fun i Γ=>∃x y z u,Γ= [.pu (bJ S),.pu (j6 bs),.ow ((List.range (i+1)).map fun j=>bJ (rk S bs j)),x,y,z,u],⟨_,_,_,_,rfl⟩,?_,?_⟩
 ·rintro i d _ hi ⟨x,y,z,u,rfl⟩;have hi' :i<bs.length:=by
   have:=(zW.mp hi).1
   rwa [List.length_map] at this
  rw[List.getElem?_map,List.getElem?_eq_getElem hi'] at hi;cases hi;have eb:bs.getD i (0,0)=bs[i]:=by rw[List.getD_eq_getElem?_getD,List.getElem?_eq_getElem hi'];rfl
  rw[<- eb];obtain⟨b,hb⟩:∃b,b=bs.getD i (0,0):=⟨_,rfl⟩;rw[<- hb];refine⟨rfl,rfl,Nat.zero_le _,?_⟩;show lg (S.map D.int) _ _ _ _ _
  let p:Int ->Bool:=fun e=>(rk S bs i).any fun s=>ju b (e - s)
  refine⟨fun j Γ=>∃u,Γ= [.pu (bJ S),.pu (j6 bs),.ow ((List.range (i+1)).map fun j=>bJ (rk S bs j)),.pu (.int b.1),.pu (.int b.2),.ow (((S.take j).filter p).map .int),u],⟨_,rfl⟩,?_,?_⟩
  ·rintro j d _ hj ⟨u,rfl⟩;have hj' :j<S.length:=by
    have:=(zW.mp hj).1
    rwa [List.length_map] at this
   rw[List.getElem?_map,List.getElem?_eq_getElem hj'] at hj;cases hj;have tk:S.take (j+1)=S.take j++ [S[j]]:=by rw[List.take_add_one,List.getElem?_eq_getElem hj'];rfl
   have len:((S.take j).filter p).length<=1000:=zP (List.length_filter_le _ _) (by rw[List.length_take];omega)
   generalize S[j]=e at tk;show∃d,fJ ((List.range (i+1)).map fun j=>bJ (rk S bs j)) (-1)=some d/\_;refine⟨_,oM,?_⟩;show cL _ ((rk S bs i).map D.int) _;refine xX D.int (fun one=>ju b (e - one)) (fun one ho P' hp' => ?_) ?_
   ·exact zy0 (b:=b) (x:=e - one) (R:=fun k=>if k=true then P' [.int one] else P' []) hp'
   ·refine⟨by show(0:Nat)<=sizeLine;decide,Ph _,?_⟩
    rw[zrk,zns];show if p e=true then _ else _;by_cases q:p e=true
    ·rw[if_pos q];refine⟨⟨_,rfl⟩,by rw[List.length_map];omega,.pu (.int e),?_⟩
     rw[tk,List.filter_append,List.map_append,List.filter_cons,if_pos q]
     rfl
    ·rw[if_neg q];refine⟨.pu (.int e),?_⟩;rw[tk,List.filter_append,List.filter_cons,if_neg q];simp
  ·rintro _ ⟨u,rfl⟩;rw[List.length_map,List.take_length];refine⟨⟨_,rfl⟩,by rw[List.length_map,List.length_range];omega,?_⟩
   show∃x y z u,_= [Slot.pu (bJ S),.pu (j6 bs),.ow ((List.range (i+1+1)).map fun j=>bJ (rk S bs j)),x,y,z,u];rw[List.range_succ (n:=i+1),List.map_append];subst hb;exact⟨_,_,_,_,rfl⟩
 ·rintro _ ⟨x,y,z,u,rfl⟩;rw[List.length_map];exact h
abbrev sV(Q:T ->Prop):iT:={nx:=fun _=>False,rt:=fun _=>False,rT:=wA Q}
theorem zc{n:Nat}(i j:Int):fV n (.int i) (.int j):=by cases n<;>simp [fV]
theorem zvz(bs:List Bd)(b:Bd):(bs.map eZ).map T.leaf++ [.leaf (D.tup [.int b.1,.int b.2])]=((bs++ [b]).map eZ).map T.leaf:=by rw[List.map_append,List.map_append];rfl
theorem zi9{K:W.Frag}{c:Cls}{ds Q Ex}(h:DG c ds Q Ex):Xc K c (sV Q) (aK 10 ds) fun _=>Ex:=by
 obtain⟨ns,f,m,rfl,hn,hf,hm,h⟩:=h;have s1:=sU;have go:∀(as:List Addr) (g:Nat),0<g ->g<=12 ->O6 K c (sV Q) [.pu (.lst (ns.map .int)),.pu (.int f),.pu (.int m),.tr as (.lst []),.pu (.int m),.pu (.int g),.no,.no,.no,.no] fun _=>Ex:=by
  intro as g g0 hg;show((-(2^62):Int)<=(g:Int)/\_)/\pQ 0 (Int.toNat (g:Int)) _ _ _ _ _;rw[Int.toNat_natCast];refine⟨⟨by omega,by omega⟩,fun k Γ=>∃(as:List Addr) (bs:List Bd) (l:Int) (w x y z:Slot),Γ= [.pu (.lst (ns.map .int)),.pu (.int f),.pu (.int m),.tr as (.lst ((bs.map eZ).map .leaf)),.pu (.int l),.pu (.int g),w,x,y,z]/\bs.length=k/\0<=l/\∀b∈bs,0<=b.2,⟨as,[],m,_,_,_,_,rfl,rfl,by omega,fun b hb=>by(cases hb)⟩,?_,?_⟩
  ·rintro k _ hk ⟨as,bs,l,w,x,y,z,rfl,hl,l0,hb2⟩;refine⟨ns,f+1+k,?_,hn,by omega,_,4,rfl,by decide,fun xs hx hb=> ?_⟩
   ·show [D.lst _,D.int ((f:Int)+1+ (0+ (k:Int)))]=_;rw[Int.zero_add,show(f:Int)+1+ (k:Int)=((f+1+k:Nat):Int) by omega]
   match xs,hx with
   | [x0,x1,x2,x3],_=>
    have third:∀(l' sh:Int),0<=l' - sh ->0<=sh ->Xa K c {sV Q with nx:=fun Γ=>∃(as:List Addr) (bs:List Bd) (l:Int) (w x y z:Slot),Γ= [.pu (.lst (ns.map .int)),.pu (.int f),.pu (.int m),.tr as (.lst ((bs.map eZ).map .leaf)),.pu (.int l),.pu (.int g),w,x,y,z]/\bs.length=k+1/\0<=l/\∀b∈bs,0<=b.2,ct:=fun Γ=>∃(as:List Addr) (bs:List Bd) (l:Int) (w x y z:Slot),Γ= [.pu (.lst (ns.map .int)),.pu (.int f),.pu (.int m),.tr as (.lst ((bs.map eZ).map .leaf)),.pu (.int l),.pu (.int g),w,x,y,z]/\bs.length=k+1/\0<=l/\∀b∈bs,0<=b.2,bk:=fun Γ' =>Xb K c (sV Q) Γ' fun _=>Ex} [.pu (.lst (ns.map .int)),.pu (.int f),.pu (.int m),.tr as (.lst ((bs.map eZ).map .leaf)),.pu (.int l'),.pu (.int g),.pu (.int (0+ (k:Int))),.pu (.lst [.int x0,.int x1,.int x2,.int x3]),.pu (.int sh),z] fun _=>Ex:=by
     intro l' sh h0 h1;have f2:=ql (i:=x2) (m:=3) (by decide)
     refine⟨_,jx (j:=1) rfl,show(3:Int)≠0 by decide,⟨_,_,rfl⟩,_,jx (j:=2) rfl,show(3:Int)≠0 by decide,_,jx (j:=3) rfl,show(8:Int)≠0 by decide,zc _ _,.inr (.inl (jg (by decide))),by show(2:Nat)<=sizeLine;decide,by rw[List.length_map,List.length_map];omega,as,bs++ [(_,_)],l' - sh,_,_,_,_,by rw[<- zvz];rfl,by simp [hl],h0,fun b hb=> ?_⟩
     rcases zU.mp hb with hb | hb
     ·exact hb2 b hb
     ·rw[List.mem_singleton.mp hb];show 0<=sh+x2.fmod 3+ (if dH (.int (x3.fmod 8)) (.int 1)=true then 1 else 0)*5;split<;>omega
    have f1:=ql (i:=x0) (m:=l+1) (by omega)
    refine⟨_,jx (j:=0) rfl,show l+1≠0 by omega,zc _ _,?_⟩
    rw[xV];by_cases e:0+ (k:Int)=(g:Int) - 1
    ·rw[decide_eq_true e];exact third l l (by omega) l0
    ·rw[decide_eq_false e];exact third l (x0.fmod (l+1)) (by omega) f1.1
  ·rintro _ ⟨as,bs,l,w,x,y,z,rfl,hl,l0,hb2⟩;exact h bs (fun z=>by rw[z] at hl;simp at hl;omega) (by omega) hb2
 refine⟨Nat.zero_le _,fun as=> ?_⟩;refine⟨ns,f,rfl,hn,by omega,show(5:Int)≠0 by decide,?_⟩
 obtain⟨p,ep,hp⟩:=DK (i:=lA ns f) (n:=5) (by decide)
 show O6 K c (sV Q) [.pu (.lst (ns.map .int)),.pu (.int f),.pu (.int m),.tr as (.lst []),.pu (.int m),.pu (.int (1+ (lA ns f).fmod 5)),.no,.no,.no,.no] fun _=>Ex;rw[show(lA ns f).fmod 5=(p:Int) from ep,show(1:Int)+ (p:Int)=((1+p:Nat):Int) by omega]
 exact go as _ (by omega) (by omega)
theorem Pu:∀l:List D,gK (l.map .leaf)=l
 | []=>rfl
 | d::l=>by rw[List.map_cons];unfold gK;rw[Pu l];rfl
theorem X8:∀ls:List (List Int),gK (ls.map fun l=>iZ (l.map .int))=ls.map bJ
 | []=>rfl
 | l::ls=>by
  rw[List.map_cons,List.map_cons];unfold gK;rw[X8 ls];unfold iZ toD;rw[Pu];rfl
theorem Px(ls:List (List Int)):toD (tU ls)= .lst (ls.map bJ):=by
 unfold tU toD;rw[X8]
theorem zxv{α:Type}{n:Nat}(g:α ->D)(hg:∀a b,fV n (g a) (g b))(a b:List α):fV (n+1) (.lst (a.map g)) (.lst (b.map g)):=by
 simp only [fV];intro i x y h1 h2;rw[List.getElem?_map] at h1 h2;cases q1:a[i]? with
 | none=>rw[q1] at h1;cases h1
 | some u=>
  cases q2:b[i]? with
  | none=>rw[q2] at h2;cases h2
  | some v=>
   rw[q1] at h1;rw[q2] at h2;cases h1;cases h2;exact hg u v
theorem Yb{n:Nat}(a b:Str)(ls ls' :List (List Int)):fV (n+3) (.tup [.str a,.lst (ls.map bJ)]) (.tup [.str b,.lst (ls'.map bJ)]):=by
 simp only [fV];intro i x y h1 h2
 match i with
 | 0=>simp at h1 h2;subst h1 h2;cases n<;>simp [fV]
 | 1=>simp at h1 h2;subst h1 h2;exact zxv bJ (fun a b=>zxw a b) _ _
 | i+2=>simp at h1
theorem Yc(a b:Str){n:Nat}:fV n (.str a) (.str b):=by cases n<;>simp [fV]
theorem Yd(xs:List D):oE (.lst xs) "list" =some true:=by unfold oE Gj;show W.kitOne [] _ _=_;decide+kernel
theorem Ye{S:List Int}{n:Int}{bs:List Bd}(hn:n∈S)(hg:(0:Int)∈gk S n bs.reverse bs.length):∀k,k<=bs.length ->fk S n bs k∈rk S bs k
 | 0,_=>by unfold fk rk;exact zT.mpr rfl
 | k+1,h=>by
  obtain⟨m1,m2,_⟩:=iD.mp (WY hn hg (show k<bs.length by omega)).1
  unfold rk;exact dh.mpr ⟨m1,fk S n bs k,Ye hn hg k (by omega),m2⟩
theorem zre(qs:List Rat):(aF qs).length<=qs.length+1:=by
 unfold aF bQ;rw[List.length_map,List.length_cons,List.length_map];have h1:=List.length_filter_le (dj (j4 qs)) (List.range (j4 qs).length);have h2:=Pj qs;rw[List.length_range] at h1;omega
theorem zox(S l:List Int)(b:Bd):(jK S l b).length<=S.length:=List.length_filter_le _ _
theorem zxk(S:List Int)(bs:List Bd):∀i,(rk S bs i).length<=S.length+1
 | 0=>by unfold rk;simp
 | i+1=>by unfold rk;exact zP (zox _ _ _) (Nat.le_succ _)
theorem zli{K:W.Frag}{c:Cls}{ds Q Ex}(h:xT c ds Q Ex):XC K c (fin Q) (aK 6 ds) fun _=>Ex:=by
 obtain⟨qs,bs,rfl,hl,hz,hb,bne,h⟩:=h;have s1:=sU;have s5:(5000:Nat)<sizeLine:=by decide
 have ee:(bQ (j4 qs)).map intD=(aF qs).map .int:=by unfold aF;rw[List.map_map];rfl
 have el:=zre qs;refine⟨qs,rfl,by omega,hz,?_⟩
 rw[ee];refine⟨aF qs,bs,rfl,by omega,by omega,?_⟩
 have er:((List.range (bs.length+1)).map fun i=>bJ (rk (aF qs) bs i))=(aQ qs bs).map bJ:=by unfold aQ;rw[List.map_map];rfl
 show zdt K c (fin Q) [.pu (.lst (qs.map qD)),.pu (j6 bs),.pu (.lst ((List.range (bs.length+1)).map fun i=>bJ (rk (aF qs) bs i))),.no,.no,.no] fun _=>Ex;refine⟨qs,bs,rfl,by omega,hz,by omega,fun g=> ?_,fun g as=> ?_⟩
 ·show O8 K c (fin Q) [.pu (.lst (qs.map qD)),.pu (j6 bs),.pu (.lst ((List.range (bs.length+1)).map fun i=>bJ (rk (aF qs) bs i))),.pu (.tup [.str qj,bJ (gA qs bs)]),.no,.no] fun _=>Ex;show∃d,fJ ((List.range (bs.length+1)).map fun i=>bJ (rk (aF qs) bs i)) (-1)=some d/\_;refine⟨_,oM,rfl,DW _,?_⟩;show if (!inD (.int (((qs.map qD).length:Nat):Int)) ((rk (aF qs) bs bs.length).map .int))=true then _ else _;rw[List.length_map,DR,Hv,g,if_neg (by decide)]
  show Xz K c (fin Q) [.pu (.lst (qs.map qD)),.pu (j6 bs),.pu (.lst ((List.range (bs.length+1)).map fun i=>bJ (rk (aF qs) bs i))),.pu (.tup [.str qj,bJ (gA qs bs)]),.no,.no] fun _=>Ex;have hg:=List.contains_iff_mem.mp g;obtain⟨k1,k2⟩:=Hu qs;obtain⟨m,em⟩:∃m,bs.length=m+1:=⟨bs.length - 1,by have:=List.length_pos_iff.mpr bne;omega⟩
  have ec:(gA qs bs).map D.int=(List.range (m+1)).map fun k=> .int (fk (aF qs) qs.length bs (k+1)):=by unfold gA;rw[List.map_map,em];rfl
  refine⟨_,at0,Yc _ _,?_⟩;rw[show dH (D.str qj) (.str (Str.ofString "cuts"))=true from tL _];refine⟨_,at1,zc _ _,?_⟩;rw[show dH (D.int (((gA qs bs).map D.int).length:Nat)) (.int ((bs.map eZ).length:Nat))=true from by
   unfold gA;rw[List.length_map,List.length_map,List.length_map,List.length_range];exact tL _]
  refine⟨_,at1,.int (fk (aF qs) qs.length bs (m+1)),?_,zc _ _,?_⟩
  ·rw[ec];exact oM
  rw[show fk (aF qs) qs.length bs (m+1)=(qs.length:Int) from by rw[<- em];exact zvw k2 hg]
  rw[show dH (D.int (qs.length:Int)) (.int ((qs.map qD).length:Nat))=true from by rw[List.length_map];exact tL _]
  show((-(2^62):Int)<=(((bs.map eZ).length:Nat):Int)/\_)/\pQ 0 (Int.toNat (((bs.map eZ).length:Nat):Int)) _ _ _ _ _;rw[List.length_map,Int.toNat_natCast];refine⟨⟨by omega,by omega⟩,fun k Γ=>∃y:Slot,Γ= [.pu (.lst (qs.map qD)),.pu (j6 bs),.pu (.lst ((List.range (bs.length+1)).map fun i=>bJ (rk (aF qs) bs i))),.pu (.tup [.str qj,bJ (gA qs bs)]),.no,y],⟨_,rfl⟩,?_,?_⟩
  ·rintro k _ hk ⟨y,rfl⟩;refine⟨_,at1,.int (fk (aF qs) qs.length bs (k+1)),?_,bJ (rk (aF qs) bs (k+1)),?_,rfl,DW _,?_⟩
   ·show fJ ((gA qs bs).map D.int) (0+ (k:Int))=_;rw[Int.zero_add,ec];exact X7 (by omega)
   ·show fJ ((List.range (bs.length+1)).map fun i=>bJ (rk (aF qs) bs i)) (0+ (k:Int)+1)=_;rw[Int.zero_add,show(k:Int)+1=((k+1:Nat):Int) from rfl];exact X7 (by omega)
   ·show if (!inD (.int (fk (aF qs) qs.length bs (k+1))) ((rk (aF qs) bs (k+1)).map .int))=true then _ else _;rw[DR,show(rk (aF qs) bs (k+1)).contains (fk (aF qs) qs.length bs (k+1))=true from List.contains_iff_mem.mpr (Ye k2 hg (k+1) (by omega)),if_neg (by decide)]
    exact⟨_,rfl⟩
  ·rintro _ ⟨y,rfl⟩;exact h
 ·show O8 K c (fin Q) [.pu (.lst (qs.map qD)),.pu (j6 bs),.pu (.lst ((List.range (bs.length+1)).map fun i=>bJ (rk (aF qs) bs i))),.nt as jM (tU (aQ qs bs)),.no,.no] fun _=>Ex;show∃d,fJ ((List.range (bs.length+1)).map fun i=>bJ (rk (aF qs) bs i)) (-1)=some d/\_;refine⟨_,oM,rfl,DW _,?_⟩;show if (!inD (.int (((qs.map qD).length:Nat):Int)) ((rk (aF qs) bs bs.length).map .int))=true then _ else _;rw[List.length_map,DR,Hv,g,if_pos (show(!false)=true from rfl),er];have sz:∀l∈aQ qs bs,l.length<=1000:=fun l hl' =>by
   unfold aQ at hl';obtain⟨i,_,rfl⟩:=List.mem_map.mp hl';have:=zxk (aF qs) bs i;omega
  have rl:(aQ qs bs).length=bs.length+1:=by unfold aQ;rw[List.length_map,List.length_range]
  show(2:Nat)<=sizeLine/\qM (.tup [.str jM,toD (tU (aQ qs bs))]) (.tup [.str (Str.ofString "barred"),.lst ((aQ qs bs).map bJ)]) _;refine⟨by decide,?_⟩
  rw[Px];refine⟨Yb _ _ _ _,?_⟩;rw[show dH (.tup [.str jM,.lst ((aQ qs bs).map bJ)]) (.tup [.str (Str.ofString "barred"),.lst ((aQ qs bs).map bJ)])=true from tL _];show∃d,fJ [.str jM,toD (tU (aQ qs bs))] 1=some d/\_;refine⟨_,at1,?_⟩;rw[Px];show(match oE (.lst ((aQ qs bs).map bJ)) "list" with | some b=>_ | none=>False)
  rw[Yd];show oH 3 4 (Xy K c) _ [.pu (.lst (qs.map qD)),.pu (j6 bs),.pu (.lst ((aQ qs bs).map bJ)),.nt as jM (tU (aQ qs bs)),.no,.no] fun _=>Ex;refine⟨as,jM,(aQ qs bs).map fun l=>iZ (l.map .int),rfl,fun p a bs' eas=>⟨fun j Γ=>∃(q:List Addr) (mU:List (List Int)) (y:Slot),Γ= [.pu (.lst (qs.map qD)),.pu (j6 bs),.pu (.lst ((aQ qs bs).map bJ)),.nt (a::q) jM (.lst (mU.map fun l=>iZ (l.map .int))),y,.no]/\mU.length=bs.length+1/\∀l∈mU,l.length<=1000+j,⟨bs',aQ qs bs,.no,by rw[eas];rfl,rl,fun l hl' =>by have:=sz l hl';omega⟩,?_,?_⟩⟩
  ·rintro j _ hj ⟨q,mU,y,rfl,hlen,hsz⟩;rw[List.length_map,rl] at hj;have hj' :j<mU.length:=by omega
   have lj:=hsz _ (zH hj');refine⟨q,mU.map fun l=>iZ (l.map .int),(mU[j].map D.int).map .leaf,rfl,by rw[List.length_map,List.length_map,rl,hlen],by rw[List.getElem?_map,List.getElem?_eq_getElem hj'];rfl,fun b cs=> ?_⟩
   show(match oE (toD (.lst ((mU[j].map D.int).map .leaf))) "list" with | some b=>_ | none=>False)
   rw[show toD (.lst ((mU[j].map D.int).map .leaf))= .lst (mU[j].map D.int) from by unfold toD;rw[Pu],Yd]
   refine⟨⟨_,_,rfl⟩,by rw[List.length_map,List.length_map];exact Nat.lt_of_le_of_lt lj (Nat.lt_of_le_of_lt (show 1000+j<=5000 by omega) s5),_,_,rfl,rfl,fun q' =>⟨q',mU.set j (mU[j]++ [-1]),.no,?_,by rw[List.length_set];exact hlen,fun l hl' => ?_⟩⟩
   ·rw[List.map_set];have:(T.lst ((mU[j].map D.int).map .leaf++ [.leaf (.int (-1))]))=iZ ((mU[j]++ [-1]).map .int):=by
     unfold iZ;rw[List.map_append,List.map_append];rfl
    show [Slot.pu _,_,_,.nt (a::q') jM (.lst ((mU.map fun l=>iZ (l.map .int)).set j (.lst ((mU[j].map D.int).map .leaf++ [.leaf (.int (-1))])))),.no,.no]=_;rw[this]
   ·rcases List.mem_or_eq_of_mem_set hl' with z | z
    ·have:=hsz l z;omega
    ·rw[z,List.length_append,List.length_singleton];omega
  ·rintro _ ⟨q,mU,y,rfl,hlen,hsz⟩;refine⟨qs,bs,rfl,by omega,hz,by omega,fun g' =>by(rw[g] at g';cases g'),fun _=> ?_⟩
   show(2:Nat)<=sizeLine/\pU (.tup [.str jM,toD (tU (aQ qs bs))]) (.tup [.str (Str.ofString "barred"),.lst ((aQ qs bs).map bJ)]) _;refine⟨by decide,?_⟩
   rw[Px];refine⟨Yb _ _ _ _,?_⟩;rw[show dH (.tup [.str jM,.lst ((aQ qs bs).map bJ)]) (.tup [.str (Str.ofString "barred"),.lst ((aQ qs bs).map bJ)])=true from tL _];exact h
theorem Yg{S:List Int}{bs:List Bd}(h0:(0:Int)∈S):∀i,(∀k,k<i ->(bs.getD k (0,0)).1=0/\0<=(bs.getD k (0,0)).2) ->(0:Int)∈rk S bs i
 | 0,_=>by unfold rk;exact zT.mpr rfl
 | i+1,h=>by
  unfold rk;obtain⟨a,b⟩:=h i (Nat.lt_succ_self _);refine dh.mpr ⟨h0,0,Yg h0 i fun k hk=>h k (Nat.lt_succ_of_lt hk),?_⟩;unfold ju;rw[a,Int.sub_zero,decide_eq_true (Int.le_refl 0),decide_eq_true b];rfl
theorem zpa{qs:List Rat}{bs:List Bd}(hb:∀b∈bs,0<=b.2):iG qs (bs.map (fun b:Bd=>((0:Int),b.2))++ [(0,(qs.length:Int))])=true:=by
 rw[<- Hv,List.contains_iff_mem];rw[List.length_append,List.length_map,List.length_singleton];unfold rk;refine dh.mpr ⟨(Hu qs).2,0,Yg (vN qs) _ fun k hk=> ?_,?_⟩
 ·rw[List.getD_eq_getElem?_getD,List.getElem?_append_left (by rw[List.length_map];exact hk),List.getElem?_map,List.getElem?_eq_getElem hk]
  exact⟨rfl,hb bs[k] (zH hk)⟩
 ·have:(bs.map (fun b:Bd=>((0:Int),b.2))++ [(0,(qs.length:Int))]).getD bs.length (0,0)=(0,(qs.length:Int)):=by
   rw[List.getD_eq_getElem?_getD,List.getElem?_append_right (by rw[List.length_map];exact Nat.le_refl _),List.length_map,Nat.sub_self];rfl
  rw[this];unfold ju;simp
theorem zyn{K:W.Frag}{c:Cls}{ds Q Ex}(h:Hs c ds Q Ex):Pb K c (fin Q) (aK 6 ds) fun _=>Ex:=by
 obtain⟨ns,rfl,hn,h⟩:=h;have s1:=sU;refine⟨ns,0,rfl,hn,by decide,_,5,rfl,by decide,fun xs hx hb=> ?_⟩
 match xs,hx with
 | [x0,x1,x2,x3,x4],_=>
 have behind:∀(qs:List Rat) (bs:List Bd),qs.length<=60 ->(∀q∈qs,Sz 400 q) ->bs≠ [] ->bs.length<=12 ->(∀b∈bs,0<=b.2) ->O9 K c (fin Q) [.pu (.lst (ns.map .int)),.pu (.lst [.int x0,.int x1,.int x2,.int x3,.int x4]),.pu (.int qs.length),.pu (.lst (qs.map qD)),.ow (bs.map eZ),.no] fun _=>Ex:=by
  intro qs bs hq hz bn bl b2;have wW:∀q∈qs,Sz 4000 q:=fun q hq=>(hz q hq).up (by decide)
  refine⟨qs,bs,rfl,hq,wW,by omega,bn,?_⟩
  show cL _ (bs.map eZ) _;refine DP eZ (fun b:Bd=>eZ (0,b.2)) (fun b hb P hp=>⟨_,at1,by show(2:Nat)<=sizeLine;decide,hp⟩) ?_
  refine⟨by show(2:Nat)<=sizeLine;decide,by show(1:Nat)<=sizeLine;decide,by rw[List.length_map];show _+1<=sizeLine;omega,?_⟩
  have em:(bs.map fun b:Bd=>eZ (0,b.2))++ [D.tup [.int 0,.int qs.length]]=(bs.map (fun b:Bd=>((0:Int),b.2))++ [(0,(qs.length:Int))]).map eZ:=by rw[List.map_append,List.map_map];rfl
  show XD K c (fin Q) [.pu (.lst (ns.map .int)),.pu (.lst [.int x0,.int x1,.int x2,.int x3,.int x4]),.pu (.int qs.length),.pu (.lst (qs.map qD)),.pu (.lst (bs.map eZ)),.pu (.lst ((bs.map fun b:Bd=>eZ (0,b.2))++ [D.tup [.int 0,.int qs.length]]))] fun _=>Ex;rw[em];have ml:(bs.map (fun b:Bd=>((0:Int),b.2))++ [(0,(qs.length:Int))]).length=bs.length+1:=by simp
  refine⟨qs,_,rfl,hq,wW,by omega,by simp,?_⟩
  refine⟨qs,_,rfl,by omega,wW,by omega,fun _=> ?_,fun g=>by(rw[zpa b2] at g;cases g)⟩
  refine⟨_,at0,Yc _ _,?_⟩;rw[show dH (D.str qj) (.str (Str.ofString "cuts"))=true from tL _];exact⟨qs,bs,rfl,hq,wW,by omega,bn,h⟩
 have go:∀w:Nat,w<=16 ->Pa K c (fin Q) [.pu (.lst (ns.map .int)),.pu (.lst [.int x0,.int x1,.int x2,.int x3,.int x4]),.pu (.int w),.no,.no,.no] fun _=>Ex:=by
  intro w hw;refine⟨ns,8,w,rfl,hn,by decide,by omega,fun qs hq hz=> ?_⟩
  have hz' :∀q∈qs,Sz 400 q:=fun q hq' =>(hz q hq').up (by omega)
  show XH K c (fin Q) [.pu (.lst (ns.map .int)),.pu (.lst [.int x0,.int x1,.int x2,.int x3,.int x4]),.pu (.int w),.pu (.lst (qs.map qD)),.no,.no] fun _=>Ex;rw[<- hq];refine⟨ns,1,qs.length,rfl,hn,by decide,by omega,fun bs bn bl b2=>⟨bs.map eZ,rfl,?_⟩⟩
  show XF K c (fin Q) [.pu (.lst (ns.map .int)),.pu (.lst [.int x0,.int x1,.int x2,.int x3,.int x4]),.pu (.int qs.length),.pu (.lst (qs.map qD)),.ow (bs.map eZ),.no] fun _=>Ex;have bp:=List.length_pos_iff.mpr bn;refine⟨_,jx (j:=2) rfl,show(2:Int)≠0 by decide,zc _ _,?_⟩
  rw[xV];by_cases e:x2.fmod 2=1
  ·rw[decide_eq_true e];obtain⟨i,ei,hi⟩:=DK (i:=x3) (n:=bs.length) bp;have f4:=ql (i:=x4) (m:=5) (by decide)
   refine⟨_,jx (j:=4) rfl,show(5:Int)≠0 by decide,_,jx (j:=4) rfl,show(5:Int)≠0 by decide,by show(2:Nat)<=sizeLine;decide,⟨_,rfl⟩,_,jx (j:=3) rfl,trivial,?_⟩
   show((bs.map eZ).length:Int)≠0/\_;refine⟨by rw[List.length_map];omega,i,?_,?_⟩
   ·show nW (bs.map eZ).length (x3.fmod ((bs.map eZ).length:Int))=some i;rw[List.length_map,ei];unfold nW;rw[if_pos (by omega),if_pos (by omega)];simp
   ·have es:(bs.map eZ).set i (D.tup [.int (x4.fmod 5),.int (x4.fmod 5)])=(bs.set i (x4.fmod 5,x4.fmod 5)).map eZ:=by rw[List.map_set];rfl
    show O9 K c (fin Q) [.pu (.lst (ns.map .int)),.pu (.lst [.int x0,.int x1,.int x2,.int x3,.int x4]),.pu (.int qs.length),.pu (.lst (qs.map qD)),.ow ((bs.map eZ).set i (D.tup [.int (x4.fmod 5),.int (x4.fmod 5)])),.no] fun _=>Ex;rw[es];refine behind qs _ (by omega) hz' (fun z=>by have:=congrArg List.length z;rw[List.length_set,List.length_nil] at this;omega) (by rw[List.length_set];exact bl) fun b hb=> ?_
    rcases List.mem_or_eq_of_mem_set hb with z | z
    ·exact b2 b z
    ·rw[z];exact f4.1
  ·rw[decide_eq_false e];exact behind qs bs (by omega) hz' bn bl b2
 have go2:∀(M:Int) (b:Bool),0<=M ->M<=16 ->Pa K c (fin Q) [.pu (.lst (ns.map .int)),.pu (.lst [.int x0,.int x1,.int x2,.int x3,.int x4]),.pu (.int (M* (if b=true then 1 else 0))),.no,.no,.no] fun _=>Ex:=by
  intro M b h1 h2;cases b with
  | true=>
   rw[if_pos rfl,Int.mul_one,show M=((M.toNat:Nat):Int) by omega]
   exact go _ (by omega)
  | false=>
   rw[if_neg (by decide),Int.mul_zero]
   exact go 0 (by decide)
 have hp:=ql (i:=x0) (m:=12) (by decide)
 refine⟨_,jx (j:=0) rfl,show(12:Int)≠0 by decide,_,jx (j:=1) rfl,show(9:Int)≠0 by decide,zc _ _,.inr (.inl (by split<;>exact jg (by decide))),?_⟩
 refine go2 _ _ ?_ ?_
 ·rw[List.length_map]
  repeat split
  all_goals omega
 ·rw[List.length_map]
  repeat split
  all_goals omega
end L3
local macro_rules | `(#[$x])=> `(by exact $x)
local macro_rules | `(#[$x,_])=> `(fun _ _ _ _ _ _=>by exact $x)
local macro_rules | `(tactic| symm_saturate)=> `(tactic| exact⟨rfl,by decide+kernel,by decide+kernel,by decide+kernel,rfl,by decide+kernel⟩)
local macro_rules | `(tactic| trivial)=> `(tactic| first | exact Or.inl rfl | exact Or.inr (Or.inl rfl) | exact Or.inr (Or.inr rfl) | exact Or.inr rfl)
local macro_rules | `(tactic| nofun)=> `(tactic| exact ⟨rfl,rfl,rfl,by decide+kernel,rfl,by decide+kernel,by decide+kernel⟩)
namespace Lw
open PySem PySem.Spec PyProof.Rows L2 L3
def top(i:Nat):Stmt:=PySem.Challenge.pw_hall_k63_barred.main.body.getD i (.Pass ⟨0,0,0,0⟩)
theorem dI{k:Nat}{A:Around}{e:Env}(hr:bT k (A.deeper e)):(A.deeper e).units+21<cLine:=by have:=hr.units;omega
theorem len1{us:List Value}(h:us.length=1):∃a0,us= [a0]:=by
 match us,h with | [a0],_=>exact⟨a0,rfl⟩
theorem len2{us:List Value}(h:us.length=2):∃a0 a1,us= [a0,a1]:=by
 match us,h with | [a0,a1],_=>exact⟨a0,a1,rfl⟩
theorem xY{us:List Value}(h:us.length=3):∃a0 a1 a2,us= [a0,a1,a2]:=by
 match us,h with | [a0,a1,a2],_=>exact⟨a0,a1,a2,rfl⟩
section
variable(P:Program)(w:World)(K:W.Frag)(mg:Str ->Option Value)(base:Heap)(c:Cls)
abbrev DX:Prop:=dY P w K mg base "_law_stream" 1 ["_law_cell_here","_law_many"] (xP c)
abbrev Yh:Prop:=dY P w K mg base "_law_low" 1 ["_law_top","_law_bottom"] (vM c)
abbrev DY:Prop:=dY P w K mg base "_law_cell" 1 ["_law_script","_law_k"] (vL c)
abbrev Py:Prop:=dY P w K mg base "_law_marks" 3 ["_law_script","_law_first","_law_many"] (Dq c)
abbrev Pz:Prop:=xg P w K mg base "_law_bounds" 2 ["_law_script","_law_first","_law_many"] (DG c)
abbrev Yi:Prop:=dY P w K mg base "is_within" 1 ["step","bound"] (yX c)
abbrev Hw:Prop:=dY P w K mg base "reach" 3 ["some","bounds"] (xQ c)
abbrev Hy:Prop:=xO P w K mg base "_law_told" 7 ["_law_marks_here","_law_bounds_here"] (xR c)
abbrev Yj:Prop:=dY P w K mg base "_law_less" 1 ["_law_one","_law_other"] (yW c)
abbrev PB:Prop:=dY P w K mg base "_law_right" 8 ["_law_marks_here","_law_bounds_here"] (xT c)
end
section
variable{P:Program}{w:World}{K:W.Frag}{mg:Str ->Option Value}{base:Heap}{f:Addr}{fd:FuncData}{cdv:Value}{A:Around}{outer:List Env}{s:Shared}{H:Hp}{E:XK}{F0:Hp}(c:Cls)
abbrev PJ:Stmt:=top 16
theorem gB:aA ["_law_cell_here","_law_many","_law_xs","_law_number","_law_k"] ["_law_cell_here","_law_many"] (bF PJ):=by nofun
theorem ziu(F:fK K "_law_stream" "_law_stream" PJ f fd)(hm:mg "_law_stream" =some (.ref f))(bh:mg "range" =none):dY P w K mg base "_law_stream" 1 ["_law_cell_here","_law_many"] (xP c):=
 ⟨f,fd,kE F gB (fun _ _ _ h=>zj2 h) fun cdv A outer s H E hr F0=>⟨W3 K c,by
  have nd:=gB.nd;have hu:=dI hr;exact(bL #[vf (i:=2) nd rfl (by trivial) #[lZ aM]]
   #[bL #[ig (i:=3) nd rfl (by trivial) #[aZ (fun _=>iz) (qv 0) aC]]
   #[bL #[Bl rfl rfl bh #[au (qv 1) aM] #[jZ (i:=4) nd rfl (by trivial)]
   #[bL #[ig (i:=3) nd rfl (by trivial) #[aZ (fun _=>iz) (aZ (fun _=>lU) (aZ (fun _=>nG) (qv 3) aC) aC) aC]]
   #[cA #[vm (i:=2) (fun _=>wU) PySem.F.slot_list_append PySem.F.type_list_append rfl (by trivial) #[au (qv 3) aM]]]]]
   #[cA #[gZ #[qv 2]]]]]),fun ds Q Ex h=>zja h⟩,hm,F.kp,F.binds fun _ _ _ _ _ _ us hl=>by obtain⟨_,_,rfl⟩:=len2 hl;exact rfl⟩
abbrev PL:Stmt:=top 17
theorem jN:aA ["_law_top","_law_bottom","_law_one","_law_other"] ["_law_top","_law_bottom"] (bF PL):=by nofun
theorem znc(F:fK K "_law_low" "_law_low" PL f fd)(hm:mg "_law_low" =some (.ref f))(sW:mg "abs" =none):dY P w K mg base "_law_low" 1 ["_law_top","_law_bottom"] (vM c):=
 ⟨f,fd,kE F jN (fun _ _ _ h=>zql h) fun cdv A outer s H E hr F0=>⟨W4 K c,by
  have nd:=jN.nd;have hu:=dI hr;exact(bL #[ig (i:=2) nd rfl (by trivial) #[jD (fun _=>zy8) rfl sW boot_abs (au (qv 0) aM)]]
   #[bL #[ig (i:=3) nd rfl (by trivial) #[qv 1]]
   #[bL #[Sh #[jY (fun _=>Bm) (qv 3) aC (aR _)]
   #[cA #[zwi (i:=2) (j:=3) rfl nd rfl rfl (by decide) rfl rfl (au (qv 3) (au (aZ (fun _=>iz) (qv 2) (qv 3)) aM)) rfl]]]
   #[cA #[gZ #[pP (au (aZ (fun _=>tK) (qv 0) (qv 2)) (au (aZ (fun _=>tK) (qv 1) (qv 2)) aM))]]]]]),fun ds Q Ex h=>zod h⟩,hm,F.kp,F.binds fun _ _ _ _ _ _ us hl=>by obtain⟨_,_,rfl⟩:=len2 hl;exact rfl⟩
abbrev PN:Stmt:=top 23
theorem fj:aA ["_law_x"] ["_law_x"] (bF PN):=by nofun
theorem zg4(F:fK K "_law_fraction" "_law_fraction" PN f fd)(hm:mg "_law_fraction" =some (.ref f))(cF:Yh P w K mg base c):dY P w K mg base "_law_fraction" 2 ["_law_x"] (Dp c):=
 ⟨f,fd,kE F fj (fun _ _ _ h=>zha h) fun cdv A outer s H E hr F0=>⟨W5 K c,by
  have nd:=fj.nd;have hu:=dI hr;exact(bL #[mq #[jY (fun _=>kJ hu) (aZ (fun _=>iz) (qv 0) aC) aC (aR _)]
   #[cA #[gZ #[pP (au (aZ (fun _=>iz) (aZ (fun _=>tK) (qv 0) aC) aC) (au aC aM))]]]
   #[mj]]
   #[bL #[mq #[jY (fun _=>kJ hu) (aZ (fun _=>iz) (qv 0) aC) aC (aR _)]
   #[cA #[gZ #[gb cF (hr.mono (by decide)) rfl (au (aZ (fun _=>qK) (aZ (fun _=>iz) (aZ (fun _=>tK) (qv 0) aC) aC) aC) (au (aZ (fun _=>lU) aC (aZ (fun _=>iz) (aZ (fun _=>tK) (qv 0) aC) aC)) aM))]]]
   #[mj]]
   #[cA #[gZ #[gb cF (hr.mono (by decide)) rfl (au (aZ (fun _=>qK) (aZ (fun _=>iz) (aZ (fun _=>nG) (aZ (fun _=>tK) (qv 0) aC) aC) (aZ (fun _=>SJ) aC aC)) (aZ (fun _=>SJ) aC aC)) (au (aZ (fun _=>lU) aC (aZ (fun _=>iz) (aZ (fun _=>tK) (qv 0) aC) aC)) aM))]]]]),fun ds Q Ex h=>zhe h⟩,hm,F.kp,F.binds fun _ _ _ _ _ _ us hl=>by obtain⟨_,rfl⟩:=len1 hl;exact rfl⟩
abbrev PX:Stmt:=top 15
theorem jh:aA ["_law_script","_law_k","_law_number"] ["_law_script","_law_k"] (bF PX):=by nofun
theorem zkx(F:fK K "_law_cell" "_law_cell" PX f fd)(hm:mg "_law_cell" =some (.ref f))(aN:mg "len" =none):dY P w K mg base "_law_cell" 1 ["_law_script","_law_k"] (vL c):=
 ⟨f,fd,kE F jh (fun _ _ _ h=>zmy h) fun cdv A outer s H E hr F0=>⟨W6 K c,by
  have nd:=jh.nd;have hu:=dI hr;exact(bL #[mq #[jY (fun _=>uD) (qv 1) (jD (fun _=>mC) rfl aN boot_len (au (qv 0) aM)) (aR _)]
   #[cA #[gZ #[cH (qv 0) (qv 1) (fun _ _=>rfl)]]]
   #[mj]]
   #[bL #[ig (i:=2) nd rfl (by trivial) #[aZ (fun _=>lU) (aZ (fun _=>nG) (qv 1) aC) aC]]
   #[bL #[mq #[jY (fun _=>Bm) (jD (fun _=>mC) rfl aN boot_len (au (qv 0) aM)) aC (aR _)]
   #[cA #[ig (i:=2) nd rfl (by trivial) #[aZ (fun _=>iz) (aZ (fun _=>lU) (aZ (fun _=>nG) (cH (qv 0) (aZ (fun _=>iz) (aZ (fun _=>nG) (qv 1) aC) (jD (fun _=>mC) rfl aN boot_len (au (qv 0) aM))) (fun _ _=>rfl)) aC) (aZ (fun _=>nG) (qv 1) aC)) aC]]]
   #[mj]]
   #[cA #[gZ #[aZ (fun _=>iz) (aZ (fun _=>nG) (qv 2) (qv 2)) aC]]]]]),fun ds Q Ex h=>zni h⟩,hm,F.kp,F.binds fun _ _ _ _ _ _ us hl=>by obtain⟨_,_,rfl⟩:=len2 hl;exact rfl⟩
abbrev P0:Stmt:=top 18
theorem ji:aA ["_law_one","_law_other"] ["_law_one","_law_other"] (bF P0):=by nofun
theorem zk7(F:fK K "_law_plus" "_law_plus" P0 f fd)(hm:mg "_law_plus" =some (.ref f))(cF:Yh P w K mg base c):dY P w K mg base "_law_plus" 2 ["_law_one","_law_other"] (yV c):=
 ⟨f,fd,kE F ji (fun _ _ _ h=>znj h) fun cdv A outer s H E hr F0=>⟨W7 K c,by
  have nd:=ji.nd;have hu:=dI hr;exact(cA #[gZ #[gb cF (hr.mono (by decide)) rfl (au (aZ (fun _=>lU) (aZ (fun _=>nG) (cH (qv 0) aC (fun _ _=>rfl)) (cH (qv 1) aC (fun _ _=>rfl))) (aZ (fun _=>nG) (cH (qv 1) aC (fun _ _=>rfl)) (cH (qv 0) aC (fun _ _=>rfl)))) (au (aZ (fun _=>nG) (cH (qv 0) aC (fun _ _=>rfl)) (cH (qv 1) aC (fun _ _=>rfl))) aM))]]),fun ds Q Ex h=>zm6 h⟩,hm,F.kp,F.binds fun _ _ _ _ _ _ us hl=>by obtain⟨_,_,rfl⟩:=len2 hl;exact rfl⟩
abbrev Qa:Stmt:=top 24
theorem iH:aA ["_law_script","_law_first","_law_many","_law_marks_here","_law_k","_law_x","_law_one"] ["_law_script","_law_first","_law_many"] (bF Qa):=by nofun
theorem zjw(F:fK K "_law_marks" "_law_marks" Qa f fd)(hm:mg "_law_marks" =some (.ref f))(aD:DX P w K mg base c)(dw:dY P w K mg base "_law_fraction" 2 ["_law_x"] (Dp c))(aH:DY P w K mg base c)(gU:dY P w K mg base "_law_plus" 2 ["_law_one","_law_other"] (yV c))(bh:mg "range" =none)(aN:mg "len" =none):dY P w K mg base "_law_marks" 3 ["_law_script","_law_first","_law_many"] (Dq c):=
 ⟨f,fd,kE F iH (fun _ _ _ h=>zkj h) fun cdv A outer s H E hr F0=>⟨W9 K c,by
  have nd:=iH.nd;have hu:=dI hr;exact(bL #[vf (i:=3) nd rfl (by trivial) #[lZ aM]]
   #[bL #[Bl rfl rfl bh #[au (qv 2) aM] #[jZ (i:=4) nd rfl (by trivial)]
   #[bL #[ig (i:=5) nd rfl (by trivial) #[gb aD (hr.mono (by decide)) rfl (au (gb aH (hr.mono (by decide)) rfl (au (qv 0) (au (aZ (fun _=>lU) (qv 1) (qv 4)) aM))) (au aC aM))]]
   #[bL #[ig (i:=6) nd rfl (by trivial) #[gb dw (hr.mono (by decide)) rfl (au (cH (qv 5) aC (fun _ _=>rfl)) aM)]]
   #[bL #[mq #[uI (fun F0 H0=>by exact(pO (J6 (jY (fun _=>kJ hu) (aZ (fun _=>iz) (cH (qv 5) aC (fun _ _=>rfl)) aC) aC (aR _)) (J4 (jY (fun _=>mz hu) (qv 3) (jo #[lZ aM]) (aR _))))))]
   #[cA #[ig (i:=6) nd rfl (by trivial) #[Ln (i:=3) rfl (by trivial) (aZ (fun _=>iz) (aZ (fun _=>tK) (cH (qv 5) aC (fun _ _=>rfl)) aC) (Lk (fun F0 H0=>by exact(jD (fun _=>mC) rfl aN boot_len (au (qv 3) aM))))) (fun _ _=>rfl)]]]
   #[mj]]
   #[bL #[mq #[uI (fun F0 H0=>by exact(pO (J6 (jY (fun _=>kJ hu) (aZ (fun _=>iz) (cH (qv 5) aC (fun _ _=>rfl)) aC) aC (aR _)) (J4 (jY (fun _=>mz hu) (qv 3) (jo #[lZ aM]) (aR _))))))]
   #[cA #[ig (i:=6) nd rfl (by trivial) #[gb gU (hr.mono (by decide)) rfl (au (Ln (i:=3) rfl (by trivial) (aZ (fun _=>iz) (aZ (fun _=>tK) (cH (qv 5) aC (fun _ _=>rfl)) aC) (Lk (fun F0 H0=>by exact(jD (fun _=>mC) rfl aN boot_len (au (qv 3) aM))))) (fun _ _=>rfl)) (au (cH (jo #[lZ (au (pP (au aC (au aC aM))) (au (pP (au (tM aC) (au aC aM))) (au (pP (au aC (au aC aM))) (au (pP (au aC (au aC aM))) aM))))]) (aZ (fun _=>iz) (aZ (fun _=>tK) (cH (qv 5) aC (fun _ _=>rfl)) aC) aC) (fun _ _=>rfl)) aM))]]]
   #[mj]]
   #[cA #[vm (i:=3) (fun _=>wU) PySem.F.slot_list_append PySem.F.type_list_append rfl (by trivial) #[au (qv 6) aM]]]]]]]]
   #[cA #[gZ #[qv 3]]]]),fun ds Q Ex h=>zk9 h⟩,hm,F.kp,F.binds fun _ _ _ _ _ _ us hl=>by obtain⟨_,_,_,rfl⟩:=xY hl;exact rfl⟩
abbrev Qc:Stmt:=top 25
theorem gC:aA ["_law_script","_law_first","_law_many","_law_bounds_here","_law_left","_law_grades","_law_k","_law_x","_law_share","_law_least"] ["_law_script","_law_first","_law_many"] (bF Qc):=by nofun
theorem zi2(F:fK K "_law_bounds" "_law_bounds" Qc f fd)(hm:mg "_law_bounds" =some (.ref f))(aD:DX P w K mg base c)(aH:DY P w K mg base c)(bh:mg "range" =none)(d8:mg "max" =none)(gD:mg "int" =none):xg P w K mg base "_law_bounds" 2 ["_law_script","_law_first","_law_many"] (DG c):=
 ⟨f,fd,M9 F gC (fun _ _ _ h=>zj3 h) fun cdv A outer s H E hr F0=>⟨Xc K c,by
  have nd:=gC.nd;have hu:=dI hr;exact(bL #[zu4 (i:=3) nd rfl (by trivial) #[zyo #[lZ aM]]]
   #[bL #[ig (i:=4) nd rfl (by trivial) #[qv 2]]
   #[bL #[ig (i:=5) nd rfl (by trivial) #[aZ (fun _=>lU) aC (aZ (fun _=>iz) (gb aH (hr.mono (by decide)) rfl (au (qv 0) (au (qv 1) aM))) aC)]]
   #[bL #[Bl rfl rfl bh #[au (qv 5) aM] #[jZ (i:=6) nd rfl (by trivial)]
   #[bL #[ig (i:=7) nd rfl (by trivial) #[gb aD (hr.mono (by decide)) rfl (au (gb aH (hr.mono (by decide)) rfl (au (qv 0) (au (aZ (fun _=>lU) (aZ (fun _=>lU) (qv 1) aC) (qv 6)) aM))) (au aC aM))]]
   #[bL #[ig (i:=8) nd rfl (by trivial) #[aZ (fun _=>iz) (cH (qv 7) aC (fun _ _=>rfl)) (aZ (fun _=>lU) (qv 4) aC)]]
   #[bL #[mq #[jY (fun _=>kJ hu) (qv 6) (aZ (fun _=>qK) (qv 5) aC) (aR _)]
   #[cA #[ig (i:=8) nd rfl (by trivial) #[qv 4]]]
   #[mj]]
   #[bL #[ig (i:=4) nd rfl (by trivial) #[aZ (fun _=>qK) (qv 4) (qv 8)]]
   #[bL #[ig (i:=9) nd rfl (by trivial) #[jD (fun _=>Td rfl) rfl d8 boot_max (au aC (au (aZ (fun _=>qK) (qv 8) (aZ (fun _=>iz) (cH (qv 7) aC (fun _ _=>rfl)) aC)) aM))]]
   #[cA #[Vr (i:=3) #[pP (au (qv 9) (au (aZ (fun _=>lU) (aZ (fun _=>lU) (qv 8) (aZ (fun _=>iz) (cH (qv 7) aC (fun _ _=>rfl)) aC)) (aZ (fun _=>nG) (Tz (fun _=>Ul) rfl gD boot_int (au (yE (fun _=>kJ hu) (aZ (fun _=>iz) (cH (qv 7) aC (fun _ _=>rfl)) aC) aC (aR _)) aM)) aC)) aM))] rfl (by trivial)]]]]]]]]
   #[cA #[zue #[zwx (i:=3) rfl (by trivial)]]]]]]),fun ds Q Ex h=>zi9 h⟩,hm,F.kp,F.binds fun _ _ _ _ _ _ us hl=>by obtain⟨_,_,_,rfl⟩:=xY hl;exact rfl⟩
abbrev HB:Stmt:=top 27
theorem iI:aA ["_law_some","_law_bounds_here","_law_due","_law_least","_law_most","_law_there","_law_end"] ["_law_some","_law_bounds_here"] (bF HB):=by nofun
theorem zje(F:fK K "_law_reach" "_law_reach" HB f fd)(hm:mg "_law_reach" =some (.ref f)):dY P w K mg base "_law_reach" 1 ["_law_some","_law_bounds_here"] (Dz c):=
 ⟨f,fd,kE F iI (fun _ _ _ h=>zkc h) fun cdv A outer s H E hr F0=>⟨Xd K c,by
  have nd:=iI.nd;have hu:=dI hr;exact(bL #[vf (i:=2) nd rfl (by trivial) #[lZ (au (jo #[lZ (au aC aM)]) aM)]]
   (by exact(bL (by exact(FQ rfl #[qv 1] #[Sg rfl (FP (jZ (i:=3) nd rfl (by trivial)) (FP (jZ (i:=4) nd rfl (by trivial)) Sd))]
   (by exact(bL #[vf (i:=5) nd rfl (by trivial) #[lZ aM]]
   (by exact(bL (by exact(FQ rfl #[qv 0] #[jZ (i:=6) nd rfl (by trivial)]
   (by exact(cA (by exact(mq (by exact(uI (fun F0 H0=>by exact(jY (fun _=>mz hu) (jo (by exact(wN (own:= ["_law_one"]) (N' := ["_law_one","_law_least","_law_most","_law_end"]) (by show dR ["_law_some","_law_bounds_here","_law_due","_law_least","_law_most","_law_there","_law_end"] _ ["_law_one"] [3,4,6] (bF HB) ["_law_one","_law_least","_law_most","_law_end"];symm_saturate) rfl #[tO (uG (cH (qv 2) (tM aC) (fun _ _=>rfl)))] #[jZ (i:=0) (show(["_law_one","_law_least","_law_most","_law_end"]:List Str).Nodup by decide+kernel) rfl (by trivial),_] #[BL (zrn (fun _=>uE) (fun _=>uE) (qv 1) (aZ (fun _=>qK) (qv 3) (qv 0)) (qv 2)),_] #[qv 0,_]))) (jo #[lZ aM]) (aR _)))))
   #[cA #[vm (i:=5) (fun _=>wU) PySem.F.slot_list_append PySem.F.type_list_append rfl (by trivial) #[au (qv 6) aM]]]
   #[mj]))))))
   #[cA #[vm (i:=2) (fun _=>wU) PySem.F.slot_list_append PySem.F.type_list_append rfl (by trivial) #[au (qv 5) aM]]]))))))
   #[cA #[gZ #[qv 2]]]))),fun ds Q Ex h=>zlf h⟩,hm,F.kp,F.binds fun _ _ _ _ _ _ us hl=>by obtain⟨_,_,rfl⟩:=len2 hl;exact rfl⟩
abbrev Qd:Stmt:=top 10
theorem iJ:aA ["step","bound"] ["step","bound"] (bF Qd):=by nofun
theorem zjv(F:fK K "is_within" "is_within" Qd f fd)(hm:mg "is_within" =some (.ref f)):dY P w K mg base "is_within" 1 ["step","bound"] (yX c):=
 ⟨f,fd,kE F iJ (fun _ _ _ h=>zkr h) fun cdv A outer s H E hr F0=>⟨Xe K c,by
  have nd:=iJ.nd;have hu:=dI hr;exact(cA #[gZ #[zsx (fun _=>uE) (fun _=>uE) (cH (qv 1) aC (fun _ _=>rfl)) (qv 0) (cH (qv 1) aC (fun _ _=>rfl))]]),fun ds Q Ex h=>zki h⟩,hm,F.kp,F.binds fun _ _ _ _ _ _ us hl=>by obtain⟨_,_,rfl⟩:=len2 hl;exact rfl⟩
abbrev Ea:Stmt:=top 9
theorem jO:aA ["some","ahead","bound"] ["some","ahead","bound"] (bF Ea):=by nofun
theorem zm8(F:fK K "reached" "reached" Ea f fd)(hm:mg "reached" =some (.ref f))(bR:Yi P w K mg base c)(sX:mg "any" =none):dY P w K mg base "reached" 2 ["some","ahead","bound"] (Ds c):=
 ⟨f,fd,kE F jO (fun _ _ _ h=>zqp h) fun cdv A outer s H E hr F0=>⟨Xf K c,by
  have nd:=jO.nd;have hu:=dI hr;exact(cA (by exact(gZ (by exact(jo (by exact(wN (own:= ["end"]) (N' := ["end","ahead","bound"]) (by show dR ["some","ahead","bound"] _ ["end"] [1,2] (bF Ea) ["end","ahead","bound"];symm_saturate) rfl #[tO (uG (qv 0))] #[jZ (i:=0) (show(["end","ahead","bound"]:List Str).Nodup by decide+kernel) rfl (by trivial),_] #[BL (vd (jD (fun _=>zyg rfl) rfl sX boot_any (au (jo (by exact(wN (own:= ["start"]) (N' := ["start","end","bound"]) (by show dR ["end","ahead","bound"] _ ["start"] [0,2] (zss _ (bF Ea)) ["start","end","bound"];symm_saturate) rfl #[tO (uG (qv 1))] #[jZ (i:=0) (show(["start","end","bound"]:List Str).Nodup by decide+kernel) rfl (by trivial),_] #[BK,_] #[gb bR (hr.mono (by decide)) rfl (au (aZ (fun _=>qK) (qv 1) (qv 0)) (au (qv 2) aM)),_]))) aM))),_] #[qv 0,_]))))))),fun ds Q Ex h=>zn9 h⟩,hm,F.kp,F.binds fun _ _ _ _ _ _ us hl=>by obtain⟨_,_,_,rfl⟩:=xY hl;exact rfl⟩
abbrev Qe:Stmt:=top 8
theorem mV:aA ["some","bounds","lists","bound"] ["some","bounds"] (bF Qe):=by nofun
theorem zru(F:fK K "reach" "reach" Qe f fd)(hm:mg "reach" =some (.ref f))(jd:dY P w K mg base "reached" 2 ["some","ahead","bound"] (Ds c)):dY P w K mg base "reach" 3 ["some","bounds"] (xQ c):=
 ⟨f,fd,kE F mV (fun _ _ _ h=>zvm h) fun cdv A outer s H E hr F0=>⟨Xg K c,by
  have nd:=mV.nd;have hu:=dI hr;exact(bL #[vf (i:=2) nd rfl (by trivial) #[lZ (au (jo #[lZ (au aC aM)]) aM)]]
   #[bL #[FQ rfl #[qv 1] #[jZ (i:=3) nd rfl (by trivial)]
   #[cA #[vm (i:=2) (fun _=>wU) PySem.F.slot_list_append PySem.F.type_list_append rfl (by trivial) #[au (gb jd (hr.mono (by decide)) rfl (au (qv 0) (au (Ln (i:=2) rfl (by trivial) (tM aC) (fun _ _=>rfl)) (au (qv 3) aM)))) aM]]]]
   #[cA #[gZ #[qv 2]]]]),fun ds Q Ex h=>zuq h⟩,hm,F.kp,F.binds fun _ _ _ _ _ _ us hl=>by obtain⟨_,_,rfl⟩:=len2 hl;exact rfl⟩
abbrev zf:Stmt:=zt0 (top 2) 0
theorem dz:aA ["self","reach"] ["self","reach"] (bF zf):=by nofun
theorem zen(F:fK K "__init__" "Barred.__init__" zf f fd)(bA:fG K c.aL)(bZ:rH K c.bx)(cI:Hw P w K mg base c)(bO:mg "list" =none)(cM:mg "HallError" =some (.ref c.bx)/\wz K c.bx)(aJ:bI K c.aL "reach"):cJ P w K mg base (cN P w) 4 f fd ["self","reach"] (Dc K c.aL "reach" (yZ c)):=by
 have nd:=dz.nd;refine zqm F rfl dz bA bZ cM.1 aJ rfl (Or.inl rfl) (fun _ _ _ h=>zro h) (by decide) fun cdv A outer s H E hr F0=> ?_
 have hu:(A.deeper (envOfC "Barred.__init__" (bF zf) s.heap.objs.size f cdv)).units+21<cLine:=by have:=hr.units;omega
 exact⟨rfl,rfl,⟨_,rfl⟩,Xh K c,by exact(zr5 (own:= ["counts"]) (N' := ["counts"]) (by show dR ["self","reach"] _ ["counts"] [] (bF zf) ["counts"];symm_saturate) rfl #[tO (uG (qv 1))] #[jZ (i:=0) (show(["counts"]:List Str).Nodup by decide+kernel) rfl (by trivial),_] #[BK,_] #[Lf (fun _=>Lg) rfl bO boot_list (au (qv 0) aM),_]),fun a ds Q Ex h=>zrd h⟩
theorem zeq(F:fK K "__init__" "Barred.__init__" zf f fd)(M:W.findIn K (.ref c.aL) "__init__" =some (some (.ref f))/\W.isFn K (.ref f)=true)(hm:mg "Barred" =some (.ref c.aL))(bA:fG K c.aL)(bZ:rH K c.bx)(cI:Hw P w K mg base c)(bO:mg "list" =none)(cM:mg "HallError" =some (.ref c.bx)/\wz K c.bx)(aJ:bI K c.aL "reach"):xH P w K mg base "Barred" c.aL "reach" 4 ["self","reach"] (yZ c):=
 ⟨f,fd,zen c F bA bZ cI bO cM aJ,M.1,M.2,bA,hm,F.binds fun _ _ _ _ _ _ us hl=>by obtain⟨_,_,rfl⟩:=len2 hl;exact rfl⟩
abbrev Qf:Stmt:=top 4
theorem mW:aA ["one","other"] ["one","other"] (bF Qf):=by nofun
theorem zr8(F:fK K "under" "under" Qf f fd)(hm:mg "under" =some (.ref f)):dY P w K mg base "under" 1 ["one","other"] (Dl c):=
 ⟨f,fd,kE F mW (fun _ _ _ h=>zvi h) fun cdv A outer s H E hr F0=>⟨Xi K c,by
  have nd:=mW.nd;have hu:=dI hr;exact(cA #[gZ #[yE (fun _=>uD) (aZ (fun _=>nG) (cH (qv 0) aC (fun _ _=>rfl)) (cH (qv 1) aC (fun _ _=>rfl))) (aZ (fun _=>nG) (cH (qv 1) aC (fun _ _=>rfl)) (cH (qv 0) aC (fun _ _=>rfl))) (aR _)]]),fun ds Q Ex h=>ztv h⟩,hm,F.kp,F.binds fun _ _ _ _ _ _ us hl=>by obtain⟨_,_,rfl⟩:=len2 hl;exact rfl⟩
abbrev HD:Stmt:=top 7
theorem fO:aA ["least","marks"] ["least","marks"] (bF HD):=by nofun
theorem zhi(F:fK K "number_from" "number_from" HD f fd)(hm:mg "number_from" =some (.ref f))(lK:dY P w K mg base "under" 1 ["one","other"] (Dl c))(aN:mg "len" =none):dY P w K mg base "number_from" 2 ["least","marks"] (Dt c):=
 ⟨f,fd,kE F fO (fun _ _ _ h=>zib h) fun cdv A outer s H E hr F0=>⟨Xj K c,by
  have nd:=fO.nd;have hu:=dI hr;exact(cA (by exact(gZ (by exact(jD (fun _=>mC) rfl aN boot_len (au (jo (by exact(wN (own:= ["mark"]) (N' := ["mark","least"]) (by show dR ["least","marks"] _ ["mark"] [0] (bF HD) ["mark","least"];symm_saturate) rfl #[tO (uG (qv 1))] #[jZ (i:=0) (show(["mark","least"]:List Str).Nodup by decide+kernel) rfl (by trivial),_] #[BL (Bc (vd (gb lK (hr.mono (by decide)) rfl (au (qv 0) (au (qv 1) aM))))),_] #[qv 0,_]))) aM)))))),fun ds Q Ex h=>zie h⟩,hm,F.kp,F.binds fun _ _ _ _ _ _ us hl=>by obtain⟨_,_,rfl⟩:=len2 hl;exact rfl⟩
abbrev HF:Stmt:=top 6
theorem pD:aA ["marks"] ["marks"] (bF HF):=by nofun
theorem zup(F:fK K "ends" "ends" HF f fd)(hm:mg "ends" =some (.ref f))(dU:dY P w K mg base "number_from" 2 ["least","marks"] (Dt c))(jP:mg "sorted" =none)(sY:mg "set" =none):dY P w K mg base "ends" 3 ["marks"] (Du c):=
 ⟨f,fd,kE F pD (fun _ _ _ h=>zv2 h) fun cdv A outer s H E hr F0=>⟨Xk K c,by
  have nd:=pD.nd;have hu:=dI hr;exact(cA (by exact(gZ (by exact(jo (by exact(zud rfl rfl jP rfl sY (au (jo (by exact(Uc (jo #[lZ (au aC aM)]) (jo (by exact(wN (own:= ["mark"]) (N' := ["mark","marks"]) (by show dR ["marks"] _ ["mark"] [0] (bF HF) ["mark","marks"];symm_saturate) rfl #[tO (uG (qv 0))] #[jZ (i:=0) (show(["mark","marks"]:List Str).Nodup by decide+kernel) rfl (by trivial),_] #[BK,_] #[gb dU (hr.mono (by decide)) rfl (au (qv 0) (au (qv 1) aM)),_])))))) aM)))))))),fun ds Q Ex h=>zxa h⟩,hm,F.kp,F.binds fun _ _ _ _ _ _ us hl=>by obtain⟨_,rfl⟩:=len1 hl;exact rfl⟩
abbrev HJ:Stmt:=top 13
theorem fu:aA ["some","bounds","backward","lists"] ["some","bounds"] (bF HJ):=by nofun
theorem zgc(F:fK K "rests_behind" "rests_behind" HJ f fd)(hm:mg "rests_behind" =some (.ref f))(cI:Hw P w K mg base c)(bO:mg "list" =none)(dB:mg "reversed" =none):dY P w K mg base "rests_behind" 4 ["some","bounds"] (Dv c):=
 ⟨f,fd,kE F fu (fun _ _ _ h=>zhg h) fun cdv A outer s H E hr F0=>⟨Xm K c,by
  have nd:=fu.nd;have hu:=dI hr;exact(bL (by exact(zv6 (by exact(zt1 (i:=2) nd rfl rfl (own:= ["end"]) (N' := ["end","some"]) (by show dR ["some","bounds","backward","lists"] _ ["end"] [0] (bF HJ) ["end","some"];symm_saturate) rfl #[tO (zk6 rfl rfl dB (au (qv 0) aM))] #[jZ (i:=0) (show(["end","some"]:List Str).Nodup by decide+kernel) rfl (by trivial),_] #[BK,_] #[aZ (fun _=>qK) (cH (qv 1) (tM aC) (fun _ _=>rfl)) (qv 0),_]))))
   #[bL #[ig (i:=3) nd rfl (by trivial) #[gb cI (hr.mono (by decide)) rfl (au (qv 2) (au (jo #[Vi rfl rfl bO rfl dB (au (qv 1) aM)]) aM))]]
   #[cA #[gZ #[jo #[TV (jo #[Vi rfl rfl bO rfl dB (au (qv 3) aM)]) (TQ aC) TJ]]]]]),fun ds Q Ex h=>zhk h⟩,hm,F.kp,F.binds fun _ _ _ _ _ _ us hl=>by obtain⟨_,_,rfl⟩:=len2 hl;exact rfl⟩
abbrev Ec:Stmt:=top 12
theorem d9:aA ["some","bounds","found","bound","rests","steps"] ["some","bounds"] (bF Ec):=by nofun
theorem zfq(F:fK K "greatest_cuts" "greatest_cuts" Ec f fd)(hm:mg "greatest_cuts" =some (.ref f))(dD:dY P w K mg base "rests_behind" 4 ["some","bounds"] (Dv c))(bR:Yi P w K mg base c)(sZ:mg "zip" =none)(d8:mg "max" =none):dY P w K mg base "greatest_cuts" 5 ["some","bounds"] (Dw c):=
 ⟨f,fd,kE F d9 (fun _ _ _ h=>zga h) fun cdv A outer s H E hr F0=>⟨Xn K c,by
  have nd:=d9.nd;have hu:=dI hr;exact(bL #[vf (i:=2) nd rfl (by trivial) #[lZ (au aC aM)]]
   (by exact(bL (by exact(zvg rfl #[zx0 rfl rfl sZ (au (qv 1) (au (gb dD (hr.mono (by decide)) rfl (au (qv 0) (au (qv 1) aM))) aM))] #[Sg rfl (FP (jZ (i:=3) nd rfl (by trivial)) (FP (jZ (i:=4) nd rfl (by trivial)) Sd))]
   (by exact(bL (by exact(zrg (i:=5) nd rfl rfl (own:= ["end"]) (N' := ["end","found","bound"]) (by show dR ["some","bounds","found","bound","rests","steps"] _ ["end"] [2,3] (bF Ec) ["end","found","bound"];symm_saturate) rfl (fun F0 H0=>by exact(tO (uG (qv 0)))) #[jZ (i:=0) (show(["end","found","bound"]:List Str).Nodup by decide+kernel) rfl (by trivial),_] #[BL (vd (gb bR (hr.mono (by decide)) rfl (au (aZ (fun _=>qK) (qv 0) (cH (qv 1) (tM aC) (fun _ _=>rfl))) (au (qv 2) aM)))),_] #[qv 0,_]))
   (by exact(cA (by exact(vm (i:=2) (fun _=>wU) PySem.F.slot_list_append PySem.F.type_list_append rfl (by trivial) (by exact(au (jD (fun _=>zxo rfl) rfl d8 boot_max (au (jo (by exact(wN (own:= ["end"]) (N' := ["end","some","rests"]) (by show dR ["some","bounds","found","bound","rests","steps"] _ ["end"] [0,4] (bF Ec) ["end","some","rests"];symm_saturate) rfl #[tO (uG (qv 5))] #[jZ (i:=0) (show(["end","some","rests"]:List Str).Nodup by decide+kernel) rfl (by trivial),_] #[BL (jY (fun _=>Ls) (aZ (fun _=>qK) (cH (qv 1) (tM aC) (fun _ _=>rfl)) (qv 0)) (qv 2) (by with_unfolding_all rfl)),_] #[qv 0,_]))) aM)) aM))))))))))
   #[cA #[gZ #[jo #[TV (qv 2) (TQ aC) TJ]]]]))),fun ds Q Ex h=>zf3 h⟩,hm,F.kp,F.binds fun _ _ _ _ _ _ us hl=>by obtain⟨_,_,rfl⟩:=len2 hl;exact rfl⟩
abbrev Qg:Stmt:=top 11
theorem pF:aA ["marks","bounds","some","lists"] ["marks","bounds"] (bF Qg):=by nofun
theorem ztr(F:fK K "cuts" "cuts" Qg f fd)(hm:mg "cuts" =some (.ref f))(cg:xH P w K mg base "Barred" c.aL "reach" 4 ["self","reach"] (yZ c))(oN:dY P w K mg base "ends" 3 ["marks"] (Du c))(cI:Hw P w K mg base c)(cQ:dY P w K mg base "greatest_cuts" 5 ["some","bounds"] (Dw c))(aN:mg "len" =none):dY P w K mg base "cuts" 6 ["marks","bounds"] (Dy c):=
 ⟨f,fd,kE F pF (fun _ _ _ h=>zwe h) fun cdv A outer s H E hr F0=>⟨Xo K c,by
  have nd:=pF.nd;have hu:=dI hr;exact(bL #[ig (i:=2) nd rfl (by trivial) #[gb oN (hr.mono (by decide)) rfl (au (qv 0) aM)]]
   #[bL #[ig (i:=3) nd rfl (by trivial) #[gb cI (hr.mono (by decide)) rfl (au (qv 2) (au (qv 1) aM))]]
   #[bL #[mq #[jY (fun _=>Lx) (jD (fun _=>mC) rfl aN boot_len (au (qv 0) aM)) (cH (qv 3) (tM aC) (fun _ _=>rfl)) (by with_unfolding_all rfl)]
   #[cA #[zpw rfl cg (hr.mono (by decide)) rfl (au (qv 3) aM)]]
   #[mj]]
   #[cA #[gZ #[gb cQ (hr.mono (by decide)) rfl (au (qv 2) (au (qv 1) aM))]]]]]),fun ds Q Ex h=>zv1 h⟩,hm,F.kp,F.binds fun _ _ _ _ _ _ us hl=>by obtain⟨_,_,rfl⟩:=len2 hl;exact rfl⟩
abbrev Qh:Stmt:=top 28
theorem jj:aA ["_law_marks_here","_law_bounds_here","_law_told_here","e"] ["_law_marks_here","_law_bounds_here"] (bF Qh):=by nofun
theorem zks(F:fK K "_law_told" "_law_told" Qh f fd)(hm:mg "_law_told" =some (.ref f))(oO:dY P w K mg base "cuts" 6 ["marks","bounds"] (Dy c))(jQ:mg "Barred" =some (.ref c.aL)/\wG K c.aL=true)(aJ:bI K c.aL "reach")(bA:fG K c.aL)(fP:iR K c.aL=true)(cR:cZ K c.aL c.aL=true):xO P w K mg base "_law_told" 7 ["_law_marks_here","_law_bounds_here"] (xR c):=
 ⟨f,fd,Oe F jj (fun _ _ _ h=>znf h) fun cdv A outer s H E hr F0=>⟨Xp K c,by
  have nd:=jj.nd;have hu:=dI hr;exact(bL #[ig (i:=2) nd rfl (by trivial) #[zwl]]
   #[bL #[zvc (i:=3) rfl rfl rfl nd rfl rfl rfl jQ.1 bA.cls (fun F0=>by exact(cA #[ig (i:=2) nd rfl (by trivial) #[pP (au Bb (au (gb oO (hr.mono (by decide)) rfl (au (qv 0) (au (qv 1) aM))) aM))]]))
   (fun a F0 hA=>by exact(cA #[zu7 (i:=3) (j:=2) bA aJ nd rfl (by trivial) rfl (by trivial)]))]
   #[cA #[zr1 (i:=2) rfl (by trivial)]]]),fun ds Q Ex h=>zm5 ⟨fP,cR⟩ h⟩,hm,F.kp,F.binds fun _ _ _ _ _ _ us hl=>by obtain⟨_,_,rfl⟩:=len2 hl;exact rfl⟩
abbrev Qi:Stmt:=top 20
theorem jk:aA ["_law_one","_law_other"] ["_law_one","_law_other"] (bF Qi):=by nofun
theorem zlj(F:fK K "_law_less" "_law_less" Qi f fd)(hm:mg "_law_less" =some (.ref f)):dY P w K mg base "_law_less" 1 ["_law_one","_law_other"] (yW c):=
 ⟨f,fd,kE F jk (fun _ _ _ h=>zm9 h) fun cdv A outer s H E hr F0=>⟨Xq K c,by
  have nd:=jk.nd;have hu:=dI hr;exact(cA #[gZ #[yE (fun _=>uD) (aZ (fun _=>nG) (cH (qv 0) aC (fun _ _=>rfl)) (cH (qv 1) aC (fun _ _=>rfl))) (aZ (fun _=>nG) (cH (qv 1) aC (fun _ _=>rfl)) (cH (qv 0) aC (fun _ _=>rfl))) (aR _)]]),fun ds Q Ex h=>zm4 h⟩,hm,F.kp,F.binds fun _ _ _ _ _ _ us hl=>by obtain⟨_,_,rfl⟩:=len2 hl;exact rfl⟩
abbrev Qj:Stmt:=top 21
theorem gF:aA ["_law_some","_law_ordered","_law_one","_law_at"] ["_law_some"] (bF Qj):=by nofun
theorem ziq(F:fK K "_law_sorted" "_law_sorted" Qj f fd)(hm:mg "_law_sorted" =some (.ref f))(cG:Yj P w K mg base c)(aN:mg "len" =none):dY P w K mg base "_law_sorted" 2 ["_law_some"] (Dm c):=
 ⟨f,fd,kE F gF (fun _ _ _ h=>zjd h) fun cdv A outer s H E hr F0=>⟨Xv K c,by
  have nd:=gF.nd;have hu:=dI hr;exact(bL #[vf (i:=1) nd rfl (by trivial) #[lZ aM]]
   #[bL #[FQ rfl #[qv 0] #[jZ (i:=2) nd rfl (by trivial)]
   #[bL #[ig (i:=3) nd rfl (by trivial) #[aC]]
   #[bL #[Sh #[uI (fun F0 H0=>by exact(pO (J6 (jY (fun _=>uD) (qv 3) (jD (fun _=>mC) rfl aN boot_len (au (qv 1) aM)) (aR _)) (J4 (Bc (vd (gb cG (hr.mono (by decide)) rfl (au (qv 2) (au (cH (qv 1) (qv 3) (fun _ _=>rfl)) aM)))))))))]
   #[cA #[ig (i:=3) nd rfl (by trivial) #[aZ (fun _=>lU) (qv 3) aC]]]]
   #[cA #[vm (i:=1) (fun _=>zpq) PySem.F.slot_list_insert PySem.F.type_list_insert rfl (by trivial) #[au (qv 3) (au (qv 2) aM)]]]]]]
   #[cA #[gZ #[qv 1]]]]),fun ds Q Ex h=>zjy h⟩,hm,F.kp,F.binds fun _ _ _ _ _ _ us hl=>by obtain⟨_,rfl⟩:=len1 hl;exact rfl⟩
abbrev Qk:Stmt:=top 26
theorem jl:aA ["_law_marks_here","_law_falling","_law_due","_law_k"] ["_law_marks_here"] (bF Qk):=by nofun
theorem zk5(F:fK K "_law_ends" "_law_ends" Qk f fd)(hm:mg "_law_ends" =some (.ref f))(eN:dY P w K mg base "_law_sorted" 2 ["_law_some"] (Dm c))(cG:Yj P w K mg base c)(bh:mg "range" =none)(aN:mg "len" =none):dY P w K mg base "_law_ends" 3 ["_law_marks_here"] (Dr c):=
 ⟨f,fd,kE F jl (fun _ _ _ h=>zno h) fun cdv A outer s H E hr F0=>⟨Xx K c,by
  have nd:=jl.nd;have hu:=dI hr;exact(bL #[ig (i:=1) nd rfl (by trivial) #[jo #[zwz (gb eN (hr.mono (by decide)) rfl (au (qv 0) aM))]]]
   #[bL #[vf (i:=2) nd rfl (by trivial) #[lZ (au aC aM)]]
   #[bL #[Bl rfl rfl bh #[au (jD (fun _=>mC) rfl aN boot_len (au (qv 1) aM)) aM] #[jZ (i:=3) nd rfl (by trivial)]
   #[cA #[mq #[pO (Fy (jY (fun _=>kJ hu) (aZ (fun _=>lU) (qv 3) aC) (jD (fun _=>mC) rfl aN boot_len (au (qv 1) aM)) (aR _)) (J5 (vd (gb cG (hr.mono (by decide)) rfl (au (cH (qv 1) (aZ (fun _=>lU) (qv 3) aC) (fun _ _=>rfl)) (au (cH (qv 1) (qv 3) (fun _ _=>rfl)) aM))))))]
   #[cA #[vm (i:=2) (fun _=>wU) PySem.F.slot_list_append PySem.F.type_list_append rfl (by trivial) #[au (aZ (fun _=>lU) (qv 3) aC) aM]]]
   #[mj]]]]
   #[cA #[gZ #[qv 2]]]]]),fun ds Q Ex h=>znn h⟩,hm,F.kp,F.binds fun _ _ _ _ _ _ us hl=>by obtain⟨_,rfl⟩:=len1 hl;exact rfl⟩
abbrev Ql:Stmt:=top 29
theorem iK:aA ["_law_marks_here","_law_bounds_here","_law_due","_law_told_here","_law_one","_law_k"] ["_law_marks_here","_law_bounds_here"] (bF Ql):=by nofun
theorem zj6(F:fK K "_law_right" "_law_right" Ql f fd)(hm:mg "_law_right" =some (.ref f))(fQ:dY P w K mg base "_law_reach" 1 ["_law_some","_law_bounds_here"] (Dz c))(aU:Hy P w K mg base c)(gW:dY P w K mg base "_law_ends" 3 ["_law_marks_here"] (Dr c))(bh:mg "range" =none)(bO:mg "list" =none)(aN:mg "len" =none)(cY:mg "isinstance" =none):dY P w K mg base "_law_right" 8 ["_law_marks_here","_law_bounds_here"] (xT c):=
 ⟨f,fd,kE F iK (fun _ _ _ h=>zk0 h) fun cdv A outer s H E hr F0=>⟨XC K c,by
  have nd:=iK.nd;have hu:=dI hr;exact(bL #[ig (i:=2) nd rfl (by trivial) #[gb fQ (hr.mono (by decide)) rfl (au (gb gW (hr.mono (by decide)) rfl (au (qv 0) aM)) (au (qv 1) aM))]]
   #[bL #[zrr (j:=3) nd rfl (by trivial) #[Oi aU (hr.mono (by decide)) rfl (au (jo #[Lf (fun _=>Lg) rfl bO boot_list (au (qv 0) aM)]) (au (jo #[Lf (fun _=>Lg) rfl bO boot_list (au (qv 1) aM)]) aM))]]
   #[bL #[mq #[jY (fun _=>Lx) (jD (fun _=>mC) rfl aN boot_len (au (qv 0) aM)) (cH (qv 2) (tM aC) (fun _ _=>rfl)) (by with_unfolding_all rfl)]
   #[bL #[mq #[uI (fun F0 H0=>by exact(pO (Fy (jY (fun _=>mz hu) (qv 3) (pP (au Bb (au (qv 2) aM))) (aR _)) (J5 (Bc (vd (Te (cH (qv 3) aC (fun _ _=>rfl)) rfl cY rfl bO rfl)))))))]
   #[cA #[gZ #[yD]]]
   #[mj]]
   #[bL #[zrq (i:=3) (x:=4) rfl nd rfl (by trivial) rfl (by trivial) (by decide) (fun F0 H0=>by exact(bL #[mq #[uI (fun F0 H0=>by exact(Bc (vd (Te (qv 4) rfl cY rfl bO rfl))))]
   #[cA #[gZ #[yD]]]
   #[mj]]
   #[cA #[Vr (i:=4) #[tM aC] rfl (by trivial)]]))]
   #[cA #[gZ #[yE (fun _=>kJ hu) (Wm #[Oi aU (hr.mono (by decide)) rfl (au (qv 0) (au (qv 1) aM))]) (pP (au Bb (au (qv 2) aM))) (aR _)]]]]]
   #[mj]]
   #[bL #[mq #[uI (fun F0 H0=>by exact(pO (Fy (jY (fun _=>mz hu) (cH (qv 3) aC (fun _ _=>rfl)) Bb (aR _)) (Fy (jY (fun _=>mz hu) (jD (fun _=>mC) rfl aN boot_len (au (cH (qv 3) aC (fun _ _=>rfl)) aM)) (jD (fun _=>mC) rfl aN boot_len (au (qv 1) aM)) (aR _)) (J5 (jY (fun _=>mz hu) (cH (cH (qv 3) aC (fun _ _=>rfl)) (tM aC) (fun _ _=>rfl)) (jD (fun _=>mC) rfl aN boot_len (au (qv 0) aM)) (aR _)))))))]
   #[cA #[gZ #[yD]]]
   #[mj]]
   #[bL #[Bl rfl rfl bh #[au (jD (fun _=>mC) rfl aN boot_len (au (qv 1) aM)) aM] #[jZ (i:=5) nd rfl (by trivial)]
   #[cA #[mq #[uI (fun F0 H0=>by exact(jY (fun _=>Lx) (cH (cH (qv 3) aC (fun _ _=>rfl)) (qv 5) (fun _ _=>rfl)) (cH (qv 2) (aZ (fun _=>lU) (qv 5) aC) (fun _ _=>rfl)) (by with_unfolding_all rfl)))]
   #[cA #[gZ #[yD]]]
   #[mj]]]]
   #[cA #[gZ #[yD]]]]]]]),fun ds Q Ex h=>zli h⟩,hm,F.kp,F.binds fun _ _ _ _ _ _ us hl=>by obtain⟨_,_,rfl⟩:=len2 hl;exact rfl⟩
abbrev lV:Stmt:=top 30
theorem tu:aA ["_law_script","_law_x","_law_many","_law_marks_here","_law_bounds_here","_law_more"] ["_law_script"] (bF lV):=by nofun
theorem zyx(hr:bT 8 (A.deeper (envOfC "law" (bF lV) s.heap.objs.size f cdv)))(aD:DX P w K mg base c)(bG:Py P w K mg base c)(bw:Pz P w K mg base c)(aH:DY P w K mg base c)(aW:PB P w K mg base c)(aU:Hy P w K mg base c)(jR:mg "min" =none)(gD:mg "int" =none)(d8:mg "max" =none)(aN:mg "len" =none):lY (dF (cN P w) P w K mg base ["_law_script","_law_x","_law_many","_law_marks_here","_law_bounds_here","_law_more"] "law" (bF lV) f cdv A outer s H E) F0 H (pJ lV) (Pb K c):=by
 have nd:=tu.nd;have hu:(A.deeper (envOfC "law" (bF lV) s.heap.objs.size f cdv)).units+21<cLine:=by have:=hr.units;omega
 exact(bL #[ig (i:=1) nd rfl (by trivial) #[gb aD (hr.mono (by decide)) rfl (au (gb aH (hr.mono (by decide)) rfl (au (qv 0) (au aC aM))) (au aC aM))]]
 (by exact(bL #[ig (i:=2) nd rfl (by trivial) #[aZ (fun _=>nG) (jD (fun _=>zyy rfl) rfl jR boot_min (au aC (au (jD (fun _=>Td rfl) rfl d8 boot_max (au (aZ (fun _=>qK) (jD (fun _=>mC) rfl aN boot_len (au (qv 0) aM)) aC) (au (aZ (fun _=>iz) (cH (qv 1) aC (fun _ _=>rfl)) aC) aM))) aM))) (Tz (fun _=>Ul) rfl gD boot_int (au (yE (fun _=>mz hu) (aZ (fun _=>iz) (cH (qv 1) aC (fun _ _=>rfl)) aC) aC (aR _)) aM))]]
 (by exact(bL #[ig (i:=3) nd rfl (by trivial) #[gb bG (hr.mono (by decide)) rfl (au (qv 0) (au aC (au (qv 2) aM)))]]
 (by exact(bL #[zrj (j:=4) nd rfl (by trivial) #[zrt bw (hr.mono (by decide)) rfl (au (qv 0) (au aC (au (qv 2) aM)))]]
 (by exact(bL #[mq #[jY (fun _=>kJ hu) (aZ (fun _=>iz) (cH (qv 1) aC (fun _ _=>rfl)) aC) aC (aR _)]
 #[cA #[zvu (i:=4) rfl (by trivial) #[aZ (fun _=>iz) (cH (qv 1) aC (fun _ _=>rfl)) (Lk (fun F0 H0=>by exact(jD (fun _=>mC) rfl aN boot_len (au (qv 4) aM))))] #[pP (au (aZ (fun _=>iz) (cH (qv 1) aC (fun _ _=>rfl)) aC) (au (aZ (fun _=>iz) (cH (qv 1) aC (fun _ _=>rfl)) aC) aM))]]]
 #[mj]]
 (by exact(bL #[mq #[uI (fun F0 H0=>by exact(Bc (vd (gb aW (hr.mono (by decide)) rfl (au (qv 3) (au (qv 4) aM))))))]
 #[cA #[gZ #[yD]]]
 #[mj]]
 (by exact(bL (by exact(ig (i:=5) nd rfl (by trivial) (by exact(jo (by exact(Uc (jo (by exact(wN (own:= ["_law_bound"]) (N' := ["_law_bound"]) (by show dR ["_law_script","_law_x","_law_many","_law_marks_here","_law_bounds_here","_law_more"] _ ["_law_bound"] [] (bF lV) ["_law_bound"];symm_saturate) rfl #[tO (uG (qv 4))] #[jZ (i:=0) (show(["_law_bound"]:List Str).Nodup by decide+kernel) rfl (by trivial),_] #[BK,_] #[pP (au aC (au (cH (qv 0) aC (fun _ _=>rfl)) aM)),_]))) (jo #[lZ (au (pP (au aC (au (qv 2) aM))) aM)])))))))
 #[cA #[gZ #[R8 (gb aW (hr.mono (by decide)) rfl (au (qv 3) (au (qv 5) aM))) (R8 (yE (fun _=>kJ hu) (cH (Wm #[Oi aU (hr.mono (by decide)) rfl (au (qv 3) (au (qv 5) aM))]) aC (fun _ _=>rfl)) Bb (aR _)) (zw0 (gb aW (hr.mono (by decide)) rfl (au (qv 3) (au (qv 4) aM)))))]]])))))))))))))
theorem Yk(F:fK K "law" "law" lV f fd)(aD:DX P w K mg base c)(bG:Py P w K mg base c)(bw:Pz P w K mg base c)(aH:DY P w K mg base c)(aW:PB P w K mg base c)(aU:Hy P w K mg base c)(jR:mg "min" =none)(gD:mg "int" =none)(d8:mg "max" =none)(aN:mg "len" =none):cJ P w K mg base (cN P w) 9 f fd ["_law_script"] (jC K (Hs c)):=
 kE F tu (fun _ _ _ h=>zyr h) fun cdv A outer s H E hr F0=>⟨Pb K c,zyx c hr aD bG bw aH aW aU jR gD d8 aN,fun ds Q Ex h=>zyn h⟩
theorem zza(F:fK K "law" "law" lV f fd)(hm:mg "law" =some (.ref f))(aD:DX P w K mg base c)(bG:Py P w K mg base c)(bw:Pz P w K mg base c)(aH:DY P w K mg base c)(aW:PB P w K mg base c)(aU:Hy P w K mg base c)(jR:mg "min" =none)(gD:mg "int" =none)(d8:mg "max" =none)(aN:mg "len" =none):dY P w K mg base "law" 9 ["_law_script"] (Hs c):=
 ⟨f,fd,Yk c F aD bG bw aH aW aU jR gD d8 aN,hm,F.kp,F.binds fun _ _ _ _ _ _ us hl=>by obtain⟨_,rfl⟩:=len1 hl;exact rfl⟩
end
def ds:List (Str×Stmt):= [Hd.d "_law_stream" PJ,Hd.d "_law_low" PL,Hd.d "_law_fraction" PN,Hd.d "_law_cell" PX,Hd.d "_law_plus" P0,Hd.d "_law_marks" Qa,Hd.d "_law_bounds" Qc,Hd.d "_law_reach" HB,Hd.d "is_within" Qd,Hd.d "reached" Ea,Hd.d "reach" Qe,Hd.d "under" Qf,Hd.d "number_from" HD,Hd.d "ends" HF,Hd.d "rests_behind" HJ,Hd.d "greatest_cuts" Ec,Hd.d "cuts" Qg,Hd.d "_law_told" Qh,Hd.d "_law_less" Qi,Hd.d "_law_sorted" Qj,Hd.d "_law_ends" Qk,Hd.d "_law_right" Ql,Hd.d "law" lV]
def obs(K:W.Frag):Bool×List (Option FuncData)×List (Option FuncData):=(
 decide (Hd.isRef (W.nsIn K mainGlobals "HallError")=true)&&(
 decide (Hd.isRef (W.nsIn K mainGlobals "Barred")=true)&&(
 decide (W.findIn K (.ref (Hd.adr (W.nsIn K mainGlobals "Barred"))) "reach" =some none)&&(
 decide (iR K (Hd.adr (W.nsIn K mainGlobals "Barred"))=true)&&(
 decide (W.findIn K (.ref (Hd.adr (W.nsIn K mainGlobals "Barred"))) "__getattribute__" =some (some (.builtin "BaseException.__getattribute__")))&&(
 decide (W.findIn K (.ref (Hd.adr (W.nsIn K mainGlobals "Barred"))) "__getattr__" =some none)&&(
 decide (W.findIn K (.ref (Hd.adr (W.nsIn K mainGlobals "Barred"))) "__class__" =some (some (.builtin "object.__class__")))&&(
 decide (W.mroIn K (Hd.adr (W.nsIn K mainGlobals "Barred")) (.type "object")=some true)&&(
 decide (W.mroIn K (Hd.adr (W.nsIn K mainGlobals "Barred")) (.type "BaseException")=some true)&&(
 decide (W.findIn K (.ref (Hd.adr (W.nsIn K mainGlobals "Barred"))) "__setattr__" =some (some (.builtin "object.__setattr__")))&&(
 decide (W.hasDictIn K (Hd.adr (W.nsIn K mainGlobals "Barred"))=true)&&(
 decide (W.specialIn K (.ref (Hd.adr (W.nsIn K mainGlobals "HallError"))) "__getattribute__" =some (some (.builtin "type.__getattribute__")))&&(
 decide (W.readsIn K (Hd.adr (W.nsIn K mainGlobals "HallError")) (.type "type")=true)&&(
 decide (L3.isV (W.findCls K (.ref (Hd.adr (W.nsIn K mainGlobals "HallError"))) (.type "type") "__init__") "ValueError.__init__" =true)&&(
 decide (Hd.isRef (W.findIn K (.ref (Hd.adr (W.nsIn K mainGlobals "Barred"))) "__init__")=true)&&(
 decide (W.isFn K (.ref (Hd.adr (W.findIn K (.ref (Hd.adr (W.nsIn K mainGlobals "Barred"))) "__init__")))=true)&&(
 decide (W.excIn K (Hd.adr (W.nsIn K mainGlobals "HallError")) [.type "ValueError",.type "Exception",.type "BaseException",.type "object"] "ValueError.__new__" =true)&&(
 decide (wG K (Hd.adr (W.nsIn K mainGlobals "Barred"))=true)&&(
 decide (W.nsIn K mainGlobals "range" =some none)&&(
 decide (W.nsIn K mainGlobals "abs" =some none)&&(
 decide (W.nsIn K mainGlobals "len" =some none)&&(
 decide (W.nsIn K mainGlobals "max" =some none)&&(
 decide (W.nsIn K mainGlobals "int" =some none)&&(
 decide (W.nsIn K mainGlobals "any" =some none)&&(
 decide (W.nsIn K mainGlobals "list" =some none)&&(
 decide (W.nsIn K mainGlobals "sorted" =some none)&&(
 decide (W.nsIn K mainGlobals "set" =some none)&&(
 decide (W.nsIn K mainGlobals "reversed" =some none)&&(
 decide (W.nsIn K mainGlobals "zip" =some none)&&(
 decide (W.nsIn K mainGlobals "isinstance" =some none)&&(
 decide (W.nsIn K mainGlobals "min" =some none)&&(
 decide (iR K (Hd.adr (W.nsIn K mainGlobals "Barred"))=true)&&(
 decide (cZ K (Hd.adr (W.nsIn K mainGlobals "Barred")) (Hd.adr (W.nsIn K mainGlobals "Barred"))=true)&&(true))))))))))))))))))))))))))))))))),
 Hd.seen K ds,[Hd.fnO K (Hd.adr (W.findIn K (.ref (Hd.adr (W.nsIn K mainGlobals "Barred"))) "__init__")) "Barred.__init__"])
def good:Bool×List (Option FuncData)×List (Option FuncData):=(true,Hd.due ds,
 [Hd.ex "__init__" "Barred.__init__" zf])
theorem zv9{l:W.OpenLaw}{w:World}{K:W.Frag}{h:Heap}{mg:Str ->Option Value}{fa:Addr}(O:obs K=good)(X:K.In h)(G:h.Ns mainGlobals mg)(hfa:mg "law" =some (.ref fa)):
 ∃fd:FuncData,(∀(s:Shared) (v:Value),BindsTo s fd ⟨[v],[]⟩ [("_law_script",v)])/\∀base:Heap,K.In base ->base.Ns mainGlobals mg ->cJ l.prog w K mg base (cN l.prog w) 9 fa fd ["_law_script"] (jC K Gk):=by
 obtain⟨B,L⟩:=Prod.mk.inj O;obtain⟨L,M⟩:=Prod.mk.inj L;obtain⟨mX,B⟩:=Hd.aT B;obtain⟨mY,B⟩:=Hd.aT B;obtain⟨aJ,B⟩:=Hd.aT B;obtain⟨oR,B⟩:=Hd.aT B;obtain⟨mZ,B⟩:=Hd.aT B;obtain⟨m5,B⟩:=Hd.aT B;obtain⟨m7,B⟩:=Hd.aT B;obtain⟨m8,B⟩:=Hd.aT B;obtain⟨m9,B⟩:=Hd.aT B;obtain⟨ni,B⟩:=Hd.aT B;obtain⟨nj,B⟩:=Hd.aT B;obtain⟨jT,B⟩:=Hd.aT B;obtain⟨jU,B⟩:=Hd.aT B;obtain⟨jV,B⟩:=Hd.aT B;obtain⟨a11,B⟩:=Hd.aT B;obtain⟨n11,B⟩:=Hd.aT B;obtain⟨nq,B⟩:=Hd.aT B;obtain⟨tD,B⟩:=Hd.aT B;obtain⟨uP,B⟩:=Hd.aT B;obtain⟨Ed,B⟩:=Hd.aT B;obtain⟨Ef,B⟩:=Hd.aT B;obtain⟨Eh,B⟩:=Hd.aT B;obtain⟨Ei,B⟩:=Hd.aT B;obtain⟨Ej,B⟩:=Hd.aT B;obtain⟨xZ,B⟩:=Hd.aT B;obtain⟨tE,B⟩:=Hd.aT B;obtain⟨Ek,B⟩:=Hd.aT B;obtain⟨oU,B⟩:=Hd.aT B;obtain⟨El,B⟩:=Hd.aT B;obtain⟨lM,B⟩:=Hd.aT B;obtain⟨Em,B⟩:=Hd.aT B;obtain⟨fP,B⟩:=Hd.aT B;obtain⟨cR,B⟩:=Hd.aT B
 let c:Cls:={bx:=Hd.adr (W.nsIn K mainGlobals "HallError"),aL:=Hd.adr (W.nsIn K mainGlobals "Barred")}
 have cM:mg "HallError" =some (.ref c.bx)/\wz K c.bx:=⟨W.mg_of X G (Hd.adr_of mX),nq⟩;have jQ:mg "Barred" =some (.ref c.aL)/\wG K c.aL=true:=⟨W.mg_of X G (Hd.adr_of mY),tD⟩;have bA:fG K c.aL:=⟨oR,⟨mZ,m5,m7,m8,m9⟩,ni,nj⟩;have bZ:rH K c.bx:=⟨jT,jU,L3.isV_of jV⟩;have bh:mg "range" =none:=W.mg_none_of X G uP;have sW:mg "abs" =none:=W.mg_none_of X G Ed;have aN:mg "len" =none:=W.mg_none_of X G Ef;have d8:mg "max" =none:=W.mg_none_of X G Eh;have gD:mg "int" =none:=W.mg_none_of X G Ei;have sX:mg "any" =none:=W.mg_none_of X G Ej;have bO:mg "list" =none:=W.mg_none_of X G xZ;have jP:mg "sorted" =none:=W.mg_none_of X G tE;have sY:mg "set" =none:=W.mg_none_of X G Ek;have dB:mg "reversed" =none:=W.mg_none_of X G oU;have sZ:mg "zip" =none:=W.mg_none_of X G El;have cY:mg "isinstance" =none:=W.mg_none_of X G lM;have jR:mg "min" =none:=W.mg_none_of X G Em;obtain⟨l0,L⟩:=Hd.seen_cons L;obtain⟨f0,fd0,a0,lN⟩:=Hd.fun_at l0;obtain⟨l1,L⟩:=Hd.seen_cons L;obtain⟨f1,fd1,a1,qm⟩:=Hd.fun_at l1;obtain⟨l2,L⟩:=Hd.seen_cons L;obtain⟨f2,fd2,a2,jW⟩:=Hd.fun_at l2;obtain⟨l3,L⟩:=Hd.seen_cons L;obtain⟨f3,fd3,a3,oV⟩:=Hd.fun_at l3;obtain⟨l4,L⟩:=Hd.seen_cons L;obtain⟨f4,fd4,a4,oW⟩:=Hd.fun_at l4;obtain⟨l5,L⟩:=Hd.seen_cons L;obtain⟨f5,fd5,a5,nu⟩:=Hd.fun_at l5;obtain⟨l6,L⟩:=Hd.seen_cons L;obtain⟨f6,fd6,a6,lO⟩:=Hd.fun_at l6;obtain⟨l7,L⟩:=Hd.seen_cons L;obtain⟨f7,fd7,a7,nA⟩:=Hd.fun_at l7;obtain⟨l8,L⟩:=Hd.seen_cons L;obtain⟨f8,fd8,a8,nC⟩:=Hd.fun_at l8;obtain⟨l9,L⟩:=Hd.seen_cons L;obtain⟨f9,fd9,a9,qp⟩:=Hd.fun_at l9;obtain⟨l10,L⟩:=Hd.seen_cons L;obtain⟨f10,aa6,a10,uQ⟩:=Hd.fun_at l10;obtain⟨l12,L⟩:=Hd.seen_cons L;obtain⟨f12,aa7,a12,uR⟩:=Hd.fun_at l12;obtain⟨l13,L⟩:=Hd.seen_cons L;obtain⟨f13,aa8,a13,kW⟩:=Hd.fun_at l13;obtain⟨l14,L⟩:=Hd.seen_cons L;obtain⟨f14,aa9,a14,yc⟩:=Hd.fun_at l14;obtain⟨l15,L⟩:=Hd.seen_cons L;obtain⟨f15,abb,a15,jX⟩:=Hd.fun_at l15;obtain⟨l16,L⟩:=Hd.seen_cons L;obtain⟨f16,abd,a16,jw⟩:=Hd.fun_at l16;obtain⟨l17,L⟩:=Hd.seen_cons L;obtain⟨f17,abe,a17,yd⟩:=Hd.fun_at l17;obtain⟨l18,L⟩:=Hd.seen_cons L;obtain⟨f18,abf,a18,oX⟩:=Hd.fun_at l18;obtain⟨l19,L⟩:=Hd.seen_cons L;obtain⟨f19,abg,a19,oY⟩:=Hd.fun_at l19;obtain⟨l20,L⟩:=Hd.seen_cons L;obtain⟨f20,abh,a20,lQ⟩:=Hd.fun_at l20;obtain⟨l21,L⟩:=Hd.seen_cons L;obtain⟨f21,abj,a21,oZ⟩:=Hd.fun_at l21;obtain⟨l22,L⟩:=Hd.seen_cons L;obtain⟨f22,abk,a22,nD⟩:=Hd.fun_at l22;obtain⟨l23,L⟩:=Hd.seen_cons L;obtain⟨f23,Qm,a23,vO⟩:=Hd.fun_at l23;obtain⟨l11,M⟩:=List.cons.inj M;obtain⟨abl,iM⟩:=Hd.fun_of l11;have e:=hfa.symm.trans (W.mg_of X G a23);cases e;refine⟨Qm,Hd.start_binds vO (fun _ _ _ _ _ _ _=>rfl),fun base kb nb=> ?_⟩;have aD:=ziu (P:=l.prog) (w:=w) (base:=base) c lN (W.mg_of X G a0) bh;have cF:=znc (P:=l.prog) (w:=w) (base:=base) c qm (W.mg_of X G a1) sW;have dw:=zg4 (P:=l.prog) (w:=w) (base:=base) c jW (W.mg_of X G a2) cF;have aH:=zkx (P:=l.prog) (w:=w) (base:=base) c oV (W.mg_of X G a3) aN;have gU:=zk7 (P:=l.prog) (w:=w) (base:=base) c oW (W.mg_of X G a4) cF;have bG:=zjw (P:=l.prog) (w:=w) (base:=base) c nu (W.mg_of X G a5) aD dw aH gU bh aN;have bw:=zi2 (P:=l.prog) (w:=w) (base:=base) c lO (W.mg_of X G a6) aD aH bh d8 gD;have fQ:=zje (P:=l.prog) (w:=w) (base:=base) c nA (W.mg_of X G a7);have bR:=zjv (P:=l.prog) (w:=w) (base:=base) c nC (W.mg_of X G a8);have jd:=zm8 (P:=l.prog) (w:=w) (base:=base) c qp (W.mg_of X G a9) bR sX;have cI:=zru (P:=l.prog) (w:=w) (base:=base) c uQ (W.mg_of X G a10) jd;have cg:=zeq (P:=l.prog) (w:=w) (base:=base) c iM ⟨Hd.adr_of a11,n11⟩ (W.mg_of X G (Hd.adr_of mY)) bA bZ cI bO cM aJ;have lK:=zr8 (P:=l.prog) (w:=w) (base:=base) c uR (W.mg_of X G a12);have dU:=zhi (P:=l.prog) (w:=w) (base:=base) c kW (W.mg_of X G a13) lK aN;have oN:=zup (P:=l.prog) (w:=w) (base:=base) c yc (W.mg_of X G a14) dU jP sY;have dD:=zgc (P:=l.prog) (w:=w) (base:=base) c jX (W.mg_of X G a15) cI bO dB;have cQ:=zfq (P:=l.prog) (w:=w) (base:=base) c jw (W.mg_of X G a16) dD bR sZ d8;have oO:=ztr (P:=l.prog) (w:=w) (base:=base) c yd (W.mg_of X G a17) cg oN cI cQ aN;have aU:=zks (P:=l.prog) (w:=w) (base:=base) c oX (W.mg_of X G a18) oO jQ aJ bA fP cR;have cG:=zlj (P:=l.prog) (w:=w) (base:=base) c oY (W.mg_of X G a19);have eN:=ziq (P:=l.prog) (w:=w) (base:=base) c lQ (W.mg_of X G a20) cG aN;have gW:=zk5 (P:=l.prog) (w:=w) (base:=base) c oZ (W.mg_of X G a21) eN cG bh aN;have aW:=zj6 (P:=l.prog) (w:=w) (base:=base) c nD (W.mg_of X G a22) fQ aU gW bh bO aN cY;exact Yk (P:=l.prog) (w:=w) (base:=base) c vO aD bG bw aH aW aU jR gD d8 aN
abbrev pg:Program:=PySem.Challenge.pw_hall_k63_barred
abbrev lw:W.OpenLaw:=PySem.Challenge.rw_hall_k63_barred
abbrev vw:Program:=W.view pg [30]
def loose:List Str:=pg.boundNames.filter fun x=>x != "law"
theorem hd_e:W.opening pg=W.plainProg pg.main.scope.names:=by kernel_rfl
theorem hd_f(s:Shared):PySem.fenceModules? pg s=some s:=by kernel_rfl
theorem hd_A(w:World)(os:OsState):W.topGo treeTable pg w 11 Hd.ann 12 (Hd.S0 w os) (W.topStub pg)=some (Hd.fore treeTable W.topGo pg w os,⟨denote treeTable (Hd.cB pg),Hd.cB pg,Hd.z,[W.topFrame Hd.z]⟩):=by
 rw[PySem.W.Fast.te15667345088766844465,PySem.W.Fast.te11892475500146522536,PySem.W.Fast.te14364793385576792824];kernel_rfl
theorem hd_B(w:World)(os:OsState):W.segRun treeTable pg w 11 Hd.ann 1 1 (Hd.fore treeTable W.topGo pg w os) (W.blockOf (W.behindTheImports pg) (Hd.env pg) (Hd.cB pg) Hd.z [W.topFrame Hd.z])=some (.next,Hd.fore treeTable W.topGo pg w os,Hd.cB pg,Hd.z):=by
 rw[PySem.W.Fast.te15667345088766844465,PySem.W.Fast.te14374325043358763698,PySem.W.Fast.te14364793385576792824];kernel_rfl
theorem hd_C(w:World)(os:OsState):(Hd.Ta (Hd.fore treeTable W.topGo pg w os)).abs=Hd.fore treeTable W.topGo pg w os:=by
 rw[PySem.W.Fast.te15667345088766844465,PySem.W.Fast.te14364793385576792824];kernel_rfl
theorem hd_D(w:World)(os:OsState):Hd.shot treeTable W.topGo W.segRunT W.topRun execs pg (Hd.rest W.openSeen pg vw loose (fun _=>true) obs 1500 w) w os=some ((.next,Hd.cB pg),(true,W.openGood vw loose,good)):=by
 rw[PySem.W.Fast.te15667345088766844465,PySem.W.Fast.te10110043849684766642,PySem.W.Fast.te14082659384304107361,PySem.W.Fast.te12563942051412417395,PySem.W.Fast.te4187177175401517315,PySem.W.Fast.te14364793385576792824];kernel_rfl
theorem hd_said:lw.wellSaid=true:=by kernel_rfl
theorem hd_ok:(W.chainsOk vw&&W.opensWell lw.row.prog&&(W.frees lw.row.toRowW&&lw.row.within.isEmpty))=true:=by kernel_rfl
theorem hd_bare:lw.row.prog.bare:=⟨rfl,rfl,rfl,rfl,rfl,by decide+kernel⟩
theorem hd_wit:lw.row.toRowW.promised:=by w_witness2
theorem hd_d:W.defOf vw lw.row.name=some (Hd.recOf lV,[]):=by kernel_rfl
theorem hd_p:lw.row.prog.theDef lw.row.name=some ((Hd.recOf lV).params,(Hd.recOf lV).body,(Hd.recOf lV).scope):=by kernel_rfl
theorem hd_k:W.kwWritten? (Hd.recOf lV).params.kwonlyargs (Hd.recOf lV).params.kw_defaults=some []:=by kernel_rfl
theorem hd_n:(Hd.recOf lV).name= "law" :=by kernel_rfl
theorem hd_z:(Hd.recOf lV).params.defaults= []:=by kernel_rfl
theorem hd_w:W.WalkO vw loose (fun _ _=>True) (fun _ h=>∃K:W.Frag,K.In h/\obs K=good) lw.row.toRowW (Hd.recOf lV) [] (fun f vs=>PySem.call f vs):=
 Hd.walk_ex (n:=63) (k:=9) (x:= "_law_script") (CX:=fun w=>cN lw.prog w) (sp:=fun K=>jC K Gk) (Fx:=fun K=>obs K=good) rfl (by decide) hd_z ⟨rfl,by decide,by decide⟩ (fun _ _ h=>h) (fun w K mg fa h O X G hm=>zv9 O X G (hd_n ▸ hm)) (fun K H a ns hl hO hS=>zpd hl hS) fun _ _ _ _ _ z=>zsa z
end Lw
theorem PySem.Challenge.cw_hall_k63_barred_holds : PySem.Challenge.rw_hall_k63_barred.Holds :=
 Hd.holds Lw.hd_said (Hd.left Lw.hd_e Lw.hd_f Lw.hd_A Lw.hd_B Lw.hd_C Lw.hd_D) Lw.hd_d Lw.hd_p Lw.hd_k Lw.hd_ok Lw.hd_bare Lw.hd_wit rfl Lw.hd_w
#print axioms PySem.Challenge.cw_hall_k63_barred_holds
