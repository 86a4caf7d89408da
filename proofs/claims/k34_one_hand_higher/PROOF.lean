import PyProof.Rows.All
import Wide.All
import OpenK.AllK
import Wide.FinOn
import Lean
import PyProof.EqAt
import PyProof.EqKinds
import PyProof.TupleCall
import PyProof.NeKinds
import PySem.Challenge.RW_hall_k34_one_hand_higher
set_option Elab.async false
set_option linter.all false
set_option maxRecDepth 100000
set_option maxHeartbeats 4000000
abbrev bG:=PySem.Value ->PySem.Shared ->Prop
abbrev bw:=List (PySem.Addr×PySem.Obj)
section
open PySem PySem.Spec PyProof.Rows
abbrev z6:=@wpAny_bind
abbrev z7:=@wpAny_pure
abbrev zZ:=@Heap.get?_push_of_some
abbrev zY:=@Heap.get?_push_size
abbrev zX:=@List.getElem?_eq_getElem
abbrev zW:=@List.mem_cons_self
abbrev zV:=@List.mem_cons_of_mem
abbrev zU:=@List.getElem?_eq_some_iff
abbrev zT:=@List.mem_cons
abbrev zR:=@List.mem_append
abbrev zQ:=@List.mem_singleton
abbrev zP:=@List.mem_append_right
abbrev zO:=@List.mem_append_left
abbrev zN:=@Nat.le_trans
abbrev zM:=@Nat.le_refl
abbrev zL:=@Nat.lt_of_lt_of_le
abbrev zK:=@Nat.lt_of_le_of_lt
abbrev zJ:=@Nat.ne_of_lt
abbrev zH:=@Bool.false_ne_true
abbrev zG:=@Heap.lt_size
abbrev zF:=@Option.some.inj
abbrev zE:=@List.mem_map
abbrev zB:=@List.mem_filter
abbrev zA:=@Heap.get?_push_ne
abbrev yZ:=@List.mem_of_getElem?
abbrev yX:=@List.getElem_mem
abbrev yV:=@Nat.lt_irrefl
end
namespace L2
open PySem PySem.Spec PyProof.Rows
abbrev Key:=Sum Int Str
def lU:Key ->Value ->Bool
 | .inl k,v=>Value.isInt k v
 | .inr x,v=>Value.isStrOf x v
def K3(w:World):Key ->Int
 | .inl k=>hashInt k
 | .inr x=>hashStr w x
theorem qU:∀{k:Key} {v:Value},lU k v=true ->(∃i t,k=Sum.inl i/\v=Value.int i t)\/ (∃x t,k=Sum.inr x/\v=Value.str x t)
 | .inl i,v,h=>by
  obtain⟨t,e⟩:=Value.isInt_shape (k:=i) (v:=v) h;exact .inl ⟨i,t,rfl,e⟩
 | .inr x,v,h=>by
  obtain⟨t,e⟩:=Value.isStrOf_shape (x:=x) (v:=v) h;exact .inr ⟨x,t,rfl,e⟩
theorem zt0(i:Int)(t:Tok):lU (.inl i) (.int i t)=true:=by simp [lU,Value.isInt]
theorem zsa(x:Str)(t:Tok):lU (.inr x) (.str x t)=true:=by simp [lU,Value.isStrOf]
theorem z3q(a b:Int):decide ((Sum.inl a:Key)=Sum.inl b)=(a==b):=by
 by_cases e:a=b
 ·subst e;simp
 ·have h:¬(Sum.inl a:Key)=Sum.inl b:=fun q=>e (Sum.inl.inj q);rw[decide_eq_false h];exact(beq_eq_false_iff_ne.mpr e).symm
theorem z2w(a b:Str):decide ((Sum.inr a:Key)=Sum.inr b)=decide (a=b):=by
 by_cases e:a=b
 ·subst e;simp
 ·have h:¬(Sum.inr a:Key)=Sum.inr b:=fun q=>e (Sum.inr.inj q);rw[decide_eq_false h,decide_eq_false e]
theorem z4p(a:Int)(b:Str):decide ((Sum.inl a:Key)=Sum.inr b)=false:=decide_eq_false (fun q=>nomatch q)
theorem z30(a:Str)(b:Int):decide ((Sum.inr a:Key)=Sum.inl b)=false:=decide_eq_false (fun q=>nomatch q)
def iJ(prog:Program)(w:World):PySem.KeyKind prog w Key where
 is:=lU
 hash:=K3 w
 inj:=fun v a b ha hb=>by
  rcases qU ha with ⟨i,t,rfl,rfl⟩ | ⟨x,t,rfl,rfl⟩
  ·rcases qU hb with ⟨j,u,rfl,e⟩ | ⟨y,u,rfl,e⟩
   ·injection e with e1 _;rw[e1]
   ·exact nomatch e
  ·rcases qU hb with ⟨j,u,rfl,e⟩ | ⟨y,u,rfl,e⟩
   ·exact nomatch e
   ·injection e with e1 _;rw[e1]
 byValue:=fun k v h=>by
  rcases qU h with ⟨i,t,rfl,rfl⟩ | ⟨x,t,rfl,rfl⟩<;>rfl
 pyHash:=fun hv h=>by
  rcases qU hv with ⟨i,t,rfl,rfl⟩ | ⟨x,t,rfl,rfl⟩
  ·exact wpAny_pyHash_int h
  ·exact wpAny_pyHash_str h
 eqBool:=fun hu hv h=>by
  rcases qU hu with ⟨i,t,rfl,rfl⟩ | ⟨x,t,rfl,rfl⟩
  ·rcases qU hv with ⟨j,u,rfl,rfl⟩ | ⟨y,u,rfl,rfl⟩
   ·rw[z3q] at h;exact wpAny_eqBool_int h
   ·rw[z4p] at h;exact SeqAt.EqAt.int_str i t y u _ _ _ _ h
  ·rcases qU hv with ⟨j,u,rfl,rfl⟩ | ⟨y,u,rfl,rfl⟩
   ·rw[z30] at h;exact SeqAt.EqAt.str_int x t j u _ _ _ _ h
   ·rw[z2w] at h;exact wpAny_eqBool_str h
 «strs»:=fun k x t v h=>by
  rcases qU h with ⟨i,u,rfl,e⟩ | ⟨y,u,rfl,e⟩
  ·exact nomatch e
  ·injection e with e1 _;subst e1;cases v<;>rfl
theorem zol(prog:Program)(w:World)(i:Int)(t:Tok):(iJ prog w).is (.inl i) (.int i t)=true:=zt0 i t
theorem Ux(prog:Program)(w:World)(x:Str)(t:Tok):(iJ prog w).is (.inr x) (.str x t)=true:=zsa x t
inductive V where
 | non | bl (b:Bool) | int (i:Int) | str (x:Str) | wQ (b:Array UInt8) | flt (b:UInt64) | ref (a:Addr) | ty (n:String)
 deriving DecidableEq
def RelV:V ->Value ->Prop
 | .non,u=>u=Value.none
 | .bl b,u=>u=Value.bool b
 | .int i,u=>∃t,u=Value.int i t
 | .str x,u=>∃t,u=Value.str x t
 | .wQ b,u=>∃t,u=Value.bytes b t
 | .flt b,u=>∃t,u=Value.float b t
 | .ref a,u=>u=Value.ref a
 | .ty n,u=>u=Value.type n
abbrev Vals:List V ->List Value ->Prop:=Paired RelV
theorem Vals.length{xs:List V}{us:List Value}(r:Vals xs us):xs.length=us.length:=Paired.length r
theorem Vals.get:∀{xs:List V} {us:List Value} {i:Nat} {x:V},Vals xs us ->xs[i]?=some x ->∃u,us[i]?=some u/\RelV x u
 | _,_,_,_,.nil,e=>by simp at e
 | _,_,0,_,.cons r _,e=>by simp at e;subst e;exact⟨_,rfl,r⟩
 | _,_,i+1,x,.cons _ t,e=>by
  obtain⟨u,h1,h2⟩:=Vals.get (i:=i) (x:=x) t (by simpa using e)
  exact⟨u,by simpa using h1,h2⟩
theorem Vals.set{x:V}{u:Value}(r:RelV x u):∀{xs:List V} {us:List Value} (i:Nat),Vals xs us ->Vals (xs.set i x) (us.set i u)
 | _,_,_,.nil=> .nil
 | _,_,0,.cons _ t=> .cons r t
 | _,_,i+1,.cons q t=> .cons q (Vals.set r i t)
theorem Vals.append:∀{xs ys:List V} {us ws:List Value},Vals xs us ->Vals ys ws ->Vals (xs++ys) (us++ws)
 | _,_,_,_,.nil,s=>s
 | _,_,_,_,.cons r t,s=> .cons r (Vals.append t s)
theorem Vals.take:∀{xs:List V} {us:List Value} (n:Nat),Vals xs us ->Vals (xs.take n) (us.take n)
 | _,_,0,_=> .nil
 | _,_,_+1,.nil=> .nil
 | _,_,n+1,.cons r t=> .cons r (Vals.take n t)
theorem Vals.drop:∀{xs:List V} {us:List Value} (n:Nat),Vals xs us ->Vals (xs.drop n) (us.drop n)
 | _,_,0,r=>r
 | _,_,_+1,.nil=> .nil
 | _,_,n+1,.cons _ t=>Vals.drop n t
def lK:Option V ->Option Value ->Prop
 | some v,some u=>RelV v u
 | none,none=>True
 | _,_=>False
def KV{κ:Type}:List (κ×V) ->List (κ×Value) ->Prop:=Paired fun(p:κ×V) (q:κ×Value)=>p.1=q.1/\RelV p.2 q.2
def kV:Key ->V
 | .inl i=> .int i
 | .inr x=> .str x
inductive HO where
 | lst (xs:List V)
 | tup (xs:List V)
 | dK (kvs:List (Key×V)) | dT (kvs:List (List Key×V))
 | set (S:Int ->Bool) (n:Nat)
 | ins (C dx:Addr) (fs:List (Str×V))
 | own (x:Addr)
 | xd (fs:List (Str×V))
 | met (f x:Addr)
 | rng (lo hi:Int)
 | frz (o:Obj) (u:HO)
 | vJ (ps:Array Value)
 | ext (φ:Heap ->Prop)
abbrev Hp:=Addr ->Option HO
def upd(H:Hp)(a:Addr)(o:HO):Hp:=fun b=>if b=a then some o else H b
theorem lV{H:Hp}{a:Addr}{o:HO}:upd H a o a=some o:=by unfold upd;rw[if_pos rfl]
theorem c7{H:Hp}{a b:Addr}{o:HO}(h:b≠a):upd H a o b=H b:=by unfold upd;rw[if_neg h]
theorem z5k{H:Hp}{a b:Addr}{o u:HO}(h:H a=some o)(h' :H b=some u)(d:o≠u):a≠b:=by
 intro e;subst e;rw[h] at h';exact d (zF h')
theorem lG{H:Hp}{a b:Addr}{o:HO}(h:H a=some o)(h' :H b=none):a≠b:=by
 intro e;subst e;rw[h] at h';cases h'
section
variable(P:Program)(w:World)
def bB(H:Hp)(h:Heap)(a:Addr):HO ->Prop
 | .lst xs=>xs.length<=sizeLine/\∃(its:List Value) (n:Nat),Vals xs its/\h.get? a=some {cls:= .type "list",data:= .seq its.toArray n}
 | .tup xs=>xs.length<=sizeLine/\∃its:List Value,Vals xs its/\IsTup h a its.toArray
 | .dK kvs=>kvs.length<=sizeLine/\ (a==sysModules)=false/\∃vs,KV kvs vs/\h.DictOf (iJ P w) a vs
 | .dT kvs=>kvs.length<=sizeLine/\ (a==sysModules)=false/\∃xs:List (List Key×Addr×Value),
   Paired (fun(p:List Key×V) (q:List Key×Addr×Value)=>p.1=q.1/\H q.2.1=some (.tup (p.1.map kV))/\RelV p.2 q.2.2) kvs xs/\
   ∃o es ep,h.get? a=some o/\o.ExactDict/\o.data= .dict es ep/\es.toList=xs.map (entryOfKey (tupleKind (iJ P w)))/\ (xs.map (·.1)).Nodup
 | .set S n=>h.SetOf (intKind P w) a S n
 | .ins C dx fs=>H dx=some (.own a)/\fs.length<=1000/\dx≠a/\h.get? a=some (W.instObj C dx)/\
   ∃mA,h.Ns1 dx mA/\ (∀f,lK (fs.lookup f) (mA f))/\PySem.Within mA (fs.map (·.1))
 | .own _=>∃o,h.get? a=some o
 | .xd fs=>∃mA,h.Ns1 a mA/\∀f,lK (fs.lookup f) (mA f)
 | .rng lo hi=>∃t u v,h.get? a=some {cls:= .type "range",data:= .fields #[.int lo t,.int hi u,.int 1 v]}
 | .frz o u=>h.get? a=some o/\bB H h a u
 | .vJ ps=>h.get? a=some {cls:= .none,data:= .fields ps}
 | .met f x=>h.get? a=some (W.methodObj (.ref f) (.ref x))
 | .ext φ=>φ h/\ (∃o,h.get? a=some o)/\∀h1 h2:Heap,φ h1 ->(∀o,h1.get? a=some o ->h2.get? a=some o) ->φ h2
def gR(H:Hp)(h:Heap):Prop:=∀a o,H a=some o ->bB P w H h a o
end
section
variable{P:Program}{w:World}{H H' :Hp}{h h' :Heap}{a:Addr}{o:HO}
theorem bB.lt(x:bB P w H h a o):a<h.objs.size:=by
 cases o with
 | lst xs=>obtain⟨_,_,_,_,e⟩:=x;exact zG e
 | tup xs=>obtain⟨_,_,_,p⟩:=x;exact p.lt
 | dK kvs=>obtain⟨_,_,_,_,o,_,_,e,_⟩:=x;exact zG e
 | dT kvs=>obtain⟨_,_,_,_,o,_,_,e,_⟩:=x;exact zG e
 | set S n=>obtain⟨o,_,_,_,e,_⟩:=x;exact zG e
 | ins C dx fs=>obtain⟨_,_,_,e,_⟩:=x;exact zG e
 | own y=>obtain⟨_,e⟩:=x;exact zG e
 | xd fs=>obtain⟨_,⟨_,_,_,e,_⟩,_⟩:=x;exact zG e
 | rng lo hi=>obtain⟨_,_,_,e⟩:=x;exact zG e
 | frz ob u=>obtain⟨e,_⟩:=x;exact zG e
 | vJ ps=>exact zG (show h.get? a=some _ from x)
 | met f y=>exact zG (show h.get? a=some _ from x)
 | ext φ=>obtain⟨_,⟨_,e⟩,_⟩:=x;exact zG e
theorem Paired.mapP{α β:Type}{F G:α ->β ->Prop}:∀{l₁:List α} {l₂:List β},Paired F l₁ l₂ ->(∀a b,F a b ->G a b) ->Paired G l₁ l₂
 | _,_,.nil,_=> .nil
 | _,_,.cons r t,f=> .cons (f _ _ r) (Paired.mapP t f)
theorem bB.stay(x:bB P w H h a o)(k:∀b u,(b=a\/H b=some (.own a)) ->h.get? b=some u ->h'.get? b=some u)
  (ho:∀b,H b=some (.own a) ->H' b=some (.own a)) (ht:∀b xs,H b=some (.tup xs) ->H' b=some (.tup xs)):bB P w H' h' a o:=by
 induction o with
 | lst xs=>obtain⟨z,its,n,r,e⟩:=x;exact⟨z,its,n,r,k _ _ (.inl rfl) e⟩
 | tup xs=>obtain⟨z,its,r,ob,e,c⟩:=x;exact⟨z,its,r,ob,k _ _ (.inl rfl) e,c⟩
 | dK kvs=>obtain⟨z,y,vs,r,ob,es,ep,e,c⟩:=x;exact⟨z,y,vs,r,ob,es,ep,k _ _ (.inl rfl) e,c⟩
 | dT kvs=>
  obtain⟨z,y,xs,r,ob,es,ep,e,c⟩:=x;exact⟨z,y,xs,Paired.mapP r fun p q z=>⟨z.1,ht _ _ z.2.1,z.2.2⟩,ob,es,ep,k _ _ (.inl rfl) e,c⟩
 | set S n=>obtain⟨ob,es,ep,t,e,c⟩:=x;exact⟨ob,es,ep,t,k _ _ (.inl rfl) e,c⟩
 | ins C dx fs=>
  obtain⟨d,z,ne,e,mA,⟨od,es,ep,e2,c⟩,r⟩:=x;exact⟨ho _ d,z,ne,k _ _ (.inl rfl) e,mA,⟨od,es,ep,k _ _ (.inr d) e2,c⟩,r⟩
 | own y=>obtain⟨ob,e⟩:=x;exact⟨ob,k _ _ (.inl rfl) e⟩
 | xd fs=>obtain⟨mA,⟨od,es,ep,e,c⟩,r⟩:=x;exact⟨mA,⟨od,es,ep,k _ _ (.inl rfl) e,c⟩,r⟩
 | rng lo hi=>obtain⟨t,u,v,e⟩:=x;exact⟨t,u,v,k _ _ (.inl rfl) e⟩
 | frz ob u ih=>obtain⟨e,q⟩:=x;exact⟨k _ _ (.inl rfl) e,ih q⟩
 | vJ ps=>
  have e:h.get? a=some {cls:= .none,data:= .fields ps}:=x;show h'.get? a=some {cls:= .none,data:= .fields ps};exact k a _ (.inl rfl) e
 | met f y=>
  have e:h.get? a=some (W.methodObj (.ref f) (.ref y)):=x;show h'.get? a=some (W.methodObj (.ref f) (.ref y));exact k a _ (.inl rfl) e
 | ext φ=>obtain⟨p,⟨o,e⟩,st⟩:=x;exact⟨st _ _ p fun o q=>k _ _ (.inl rfl) q,⟨o,k _ _ (.inl rfl) e⟩,st⟩
theorem gR.lt(x:gR P w H h)(e:H a=some o):a<h.objs.size:=(x a o e).lt
theorem gR.fresh(x:gR P w H h)(e:h.objs.size<=a):H a=none:=by
 cases q:H a with
 | none=>rfl
 | some u=>exact absurd (zL (x.lt q) e) (yV _)
theorem gR.kept(x:gR P w H h)(k:∀b u,h.get? b=some u ->h'.get? b=some u):gR P w H h' :=fun a o e=>
 (x a o e).stay (fun b u _ q=>k b u q) (fun _ q=>q) fun _ _ q=>q
theorem gR.laid(x:gR P w H h)(k:∀b u,h.get? b=some u ->h'.get? b=some u)(hp:h.objs.size<=a)(new:bB P w (upd H a o) h' a o):gR P w (upd H a o) h' :=fun b u e=>by
 have hn:=x.fresh hp;by_cases hb:b=a
 ·subst hb;rw[lV] at e;cases e;exact new
 ·rw[c7 hb] at e;exact(x b u e).stay (fun c v _ q=>k c v q) (fun c q=>by rw[c7 (lG q hn)];exact q) fun c xs q=>by rw[c7 (lG q hn)];exact q
end
def Rd(H:Hp)(a:Addr)(u:HO):Prop:=H a=some u\/∃o,H a=some (.frz o u)
theorem Rd.ok{P:Program}{w:World}{H:Hp}{h:Heap}{a:Addr}{u:HO}(r:Rd H a u)(x:gR P w H h):bB P w H h a u:=by
 rcases r with r | ⟨o,r⟩
 ·exact x a u r
 ·obtain⟨_,q⟩:=x a _ r;exact q
def Ca:Option HO ->Prop
 | some (.lst _)=>True
 | some (.dK _)=>True
 | some (.dT _)=>True
 | some (.set _ _)=>True
 | some (.ins _ _ _)=>True
 | some (.ext _)=>True
 | _=>False
section
variable{P:Program}{w:World}{H:Hp}{h h' :Heap}{x e:Addr}{o' :HO}
theorem gR.write(ok:gR P w H h)(mu:Ca (H x))(he:e=x\/H e=some (.own x))(k:∀b u,b≠e ->h.get? b=some u ->h'.get? b=some u)(heo:∃u,h'.get? e=some u)
  (new:bB P w (upd H x o') h' x o'):gR P w (upd H x o') h' :=fun b u q=>by
 have Ce:∀c y,H c=some (.own y) ->c≠x:=fun c y r z=>by subst z;rw[r] at mu;exact mu
 have K4:∀c xs,H c=some (.tup xs) ->c≠x:=fun c xs r z=>by subst z;rw[r] at mu;exact mu
 by_cases hb:b=x
 ·subst hb;rw[lV] at q;cases q;exact new
 ·rw[c7 hb] at q;by_cases hbe:b=e
  ·have q' :H b=some (.own x):=by
    rcases he with z | z
    ·exact absurd (hbe.trans z) hb
    ·rw[hbe];exact z
   rw[q] at q';cases q';obtain⟨v,hv⟩:=heo;exact⟨v,by rw[hbe];exact hv⟩
  ·refine(ok b u q).stay (fun c v hc r=>k c v ?_ r) (fun c r=>by rw[c7 (Ce c b r)];exact r) fun c xs r=>by rw[c7 (K4 c xs r)];exact r
   rcases hc with rfl | hc
   ·exact hbe
   ·rintro rfl;rcases he with z | z
    ·exact Ce c b hc z
    ·rw[hc] at z;cases z;exact hb rfl
end
structure Un (fs ex:List Addr) (H H' :Hp) (h h' :Heap):Prop where
 keep:∀b o,h.get? b=some o ->H b=none ->b∉fs ->b∉ex ->h'.get? b=some o
 slot:∀b o,h.get? b=some o ->H b=none ->b∈fs ->b∉ex ->∃sl,h'.get? b=some {o with slots:=sl}
 free:∀b o,h.get? b=some o ->H b=none ->b∉ex ->H' b=none
 there:∀b o,h.get? b=some o ->b∉ex ->∃o',h'.get? b=some o'
 tups:∀b xs,H b=some (.tup xs) ->H' b=some (.tup xs)
 lM:∀b o u,H b=some (.frz o u) ->H' b=some (.frz o u)
 mH:∀b ps,H b=some (.vJ ps) ->∃more,H' b=some (.vJ (ps++more))
section
variable{fs fs' ex ex' :List Addr}{H H1 H2:Hp}{h h1 h2 h' :Heap}{a x e:Addr}{o:HO}
theorem Un.any(u:Un fs ex H H1 h h1){b:Addr}{ob:Obj}(q:h.get? b=some ob)(n:H b=none)(hx:b∉ex):∃sl,h1.get? b=some {ob with slots:=sl}:=by
 by_cases hb:b∈fs
 ·exact u.slot b ob q n hb hx
 ·exact⟨ob.slots,u.keep b ob q n hb hx⟩
theorem Un.kept(k:∀b u,h.get? b=some u ->h'.get? b=some u):Un fs ex H H h h' :=
 ⟨fun b ob q _ _ _=>k b ob q,fun b ob q _ _ _=>⟨ob.slots,k b ob q⟩,fun _ _ _ n _=>n,fun b ob q _=>⟨ob,k b ob q⟩,fun _ _ q=>q,fun _ _ _ q=>q,fun _ ps q=>⟨#[],by rw[q];simp⟩⟩
theorem Un.refl:Un fs ex H H h h:=Un.kept fun _ _ q=>q
theorem Un.laid(k:∀b u,h.get? b=some u ->h'.get? b=some u)(hp:h.objs.size<=a)(hn:H a=none):Un fs ex H (upd H a o) h h' where
 keep:=fun b u q _ _ _=>k b u q
 slot:=fun b u q _ _ _=>⟨u.slots,k b u q⟩
 free:=fun b u q n _=>by rw[c7 (Nat.ne_of_lt (Nat.lt_of_lt_of_le (Heap.lt_size q) hp))];exact n
 there:=fun b u q _=>⟨u,k b u q⟩
 tups:=fun b xs q=>by rw[c7 (lG q hn)];exact q
 lM:=fun b u xs q=>by rw[c7 (lG q hn)];exact q
 mH:=fun b ps q=>⟨#[],by rw[c7 (lG q hn),q];simp⟩
theorem Un.write(mu:Ca (H x))(he:e=x\/H e=some (.own x))(k:∀b u,b≠e ->h.get? b=some u ->h'.get? b=some u)(heo:∃u,h'.get? e=some u):Un fs ex H (upd H x o) h h' :=by
 have hx:∀b,H b=none ->b≠x:=fun b n z=>by subst z;rw[n] at mu;exact mu
 have hb:∀b,H b=none ->b≠e:=fun b n z=>by
  subst z;rcases he with r | r
  ·exact hx b n r
  ·rw[n] at r;cases r
 have hm:∀b u,H b=some u ->¬Ca (some u) ->b≠x:=fun b u q nm z=>by subst z;rw[q] at mu;exact nm mu
 refine⟨fun b u q n _ _=>k b u (hb b n) q,fun b u q n _ _=>⟨u.slots,k b u (hb b n) q⟩,fun b u q n _=>by rw[c7 (hx b n)];exact n,fun b u q _=> ?_,
  fun b xs q=>by rw[c7 (hm b _ q fun z=>z)];exact q,fun b u xs q=>by rw[c7 (hm b _ q fun z=>z)];exact q,fun b ps q=>⟨#[],by rw[c7 (hm b _ q fun z=>z),q];simp⟩⟩
 by_cases hbe:b=e
 ·subst hbe;exact heo
 ·exact⟨u,k b u hbe q⟩
end
def ug(h:Heap)(H:Hp):List Addr:=(List.range h.objs.size).filter fun a=>(H a).isSome
def mJ(h:Heap)(H:Hp):Heap:=W.hideAll h (ug h H)
theorem zv1(h:Heap)(H:Hp):(mJ h H).objs.size=h.objs.size:=W.hideAll_size _ _
theorem zxf{h:Heap}{H:Hp}{b:Addr}{o:Obj}(e:h.get? b=some o)(n:H b=none):(mJ h H).get? b=some o:=
 W.hideAll_get _ e fun hm=>by
  have q:(H b).isSome=true:=(zB.mp hm).2;rw[n] at q;simp at q
theorem z0u{h:Heap}{H:Hp}{b:Addr}{o:Obj}(e:(mJ h H).get? b=some o):h.get? b=some o/\H b=none:=by
 have e' :h.get? b=some o:=W.of_hideAll (ug h H) e;refine⟨e',?_⟩;cases q:H b with
 | none=>rfl
 | some x=>
  have hm:b∈ug h H:=zB.mpr ⟨List.mem_range.mpr (zG e'),by simp [q]⟩
  have z:(mJ h H).get? b=none:=W.hideAll_none (ug h H) hm;rw[z] at e;cases e
def z1g(g h:Heap)(L:Addr):bw:=(List.range h.objs.size).filterMap fun a=>if a=L\/ (g.get? a).isSome=true then none else(h.get? a).map fun o=>(a,o)
def rest(g h:Heap)(L d:Addr):bw:=(z1g g h L).filter fun p=>decide (p.1≠d)
structure Mod (K:W.Frag) (mg:Str ->Option Value) (base:Heap):Prop where
 Cg:K.In base
 glob:base.Ns mainGlobals mg
 blt:∃mb,base.Ns builtinsNs mb/\∀x:Str,x≠ "__name__" ->mb x=bootBuiltins x
 nolimit:base.NoLimit
structure Cx where
 prog:Program
 w:World
 K:W.Frag
 mg:Str ->Option Value
 base:Heap
 A:Around
 N:List Str
 s₀:Shared
 H₀:Hp
 env:Env
 outer:List Env
 stack:List Env
 ex:List Addr
 fn:Str ->Bool
 calm:Bool
 pn:bw
 xe:bG
def frs(l:List Env):List Addr:=l.filterMap (·.frame)
abbrev Cx.fs(X:Cx):List Addr:=frs X.outer
def oO(sc:Scope)(x:Str):Prop:=sc.names.lookup x=some .local\/sc.names.lookup x=some .cell\/sc.names.lookup x=some .free
def Loc(sc:Scope)(x:Str):Prop:=sc.names.lookup x=some .local\/sc.names.lookup x=some .cell
def Look(env:Env)(h:Heap)(m:Str ->Option Value)(x:Str)(u:Value):Prop:=
 (env.kindOf x=some .local/\m x=some u)\/ ((env.kindOf x=some .cell\/env.kindOf x=some .free)/\∃c,env.cells.lookup x=some c/\h.IsCell c (some u))
structure Cx.Ok (X:Cx):Prop where
 mod:Mod X.K X.mg X.base
 kind:X.env.scope.kind= .function
 glob:X.env.globals=mainGlobals
 blt:X.env.builtins=builtinsNs
 above:X.s₀.heap.objs.size<=X.env.locals
 inj:∀x y c,X.env.cells.lookup x=some c ->X.env.cells.lookup y=some c ->x=y
 has:∀x,(X.env.kindOf x=some .cell\/X.env.kindOf x=some .free) ->∃c,X.env.cells.lookup x=some c
 cab:∀x c,X.fn x=true ->X.env.cells.lookup x=some c ->X.s₀.heap.objs.size<=c
 hd:X.calm=true ->X.A.handled=none
 frames:X.A.frames=some X.stack
 stk:X.stack=X.outer\/ (X.stack=X.env::X.outer/\X.env.frame=some X.env.locals)
 Uy:∀b∈X.ex,b≠X.env.locals/\∀x c,X.env.cells.lookup x=some c ->c≠b
 bs:∀b o,X.base.get? b=some o ->X.s₀.heap.get? b=some o/\X.H₀ b=none
 zy:X.base.objs.size<=X.s₀.heap.objs.size
 wR:∀b o,X.base.get? b=some o ->b∉X.ex
 wU:∀b∈X.ex,b∉X.fs
 funs:X.s₀.heap.FunFrames X.base X.outer
 Ci:∀b∈X.fs,X.H₀ b=none
structure Inv (X:Cx) (pins:bw) (σ:List (Option V)) (H:Hp) (s:Shared):Prop where
 ok:X.Ok
 os:s.os=X.s₀.os
 bare:AllBare s.gens
 base:Un X.fs X.ex X.H₀ H X.s₀.heap s.heap
 loc:∃m,s.heap.Ns X.env.locals m/\∀(i:Nat) (x:Str) (v:V),X.N[i]?=some x ->σ[i]?=some (some v) ->oO X.env.scope x ->∃u,RelV v u/\Look X.env s.heap m x u
 cell:∀x c,X.env.cells.lookup x=some c ->∃v,s.heap.IsCell c v
 free:H X.env.locals=none
 freeC:∀x c,X.env.cells.lookup x=some c ->H c=none
 pin:∀p∈X.pn++pins,s.heap.get? p.1=some p.2/\H p.1=none/\p.1≠X.env.locals/\p.1∉X.fs/\∀v,p.2.data≠ .cell v
 hok:gR X.prog X.w H s.heap
 len:σ.length=X.N.length
section
variable{X:Cx}{pins:bw}{σ:List (Option V)}{H H' :Hp}{s:Shared}{h' :Heap}
theorem Cx.Ok.nofr(ok:X.Ok){b:Addr}{o:Obj}(e:X.base.get? b=some o):b∉X.fs:=fun hb=>by
 have:=(ok.funs.mem hb).1;rw[e] at this;cases this
theorem Inv.bs(I:Inv X pins σ H s):∀b o,X.base.get? b=some o ->s.heap.get? b=some o/\H b=none:=fun b o e=>
 ⟨I.base.keep b o (I.ok.bs b o e).1 (I.ok.bs b o e).2 (I.ok.nofr e) (I.ok.wR b o e),I.base.free b o (I.ok.bs b o e).1 (I.ok.bs b o e).2 (I.ok.wR b o e)⟩
theorem Inv.bk(I:Inv X pins σ H s):∀b o,X.base.get? b=some o ->s.heap.get? b=some o:=fun b o e=>(I.bs b o e).1
theorem Inv.mod(I:Inv X pins σ H s):Mod X.K X.mg X.base:=I.ok.mod
theorem Inv.kIn(I:Inv X pins σ H s):X.K.In s.heap:=I.ok.mod.Cg.keeps I.bk
theorem Inv.lt(I:Inv X pins σ H s):X.env.locals<s.heap.objs.size:=let ⟨_,hn,_⟩:=I.loc;hn.lt
theorem Inv.sz(I:Inv X pins σ H s):X.s₀.heap.objs.size<=s.heap.objs.size:=zN I.ok.above (Nat.le_of_lt I.lt)
theorem Inv.nofs(I:Inv X pins σ H s){a:Addr}(h:s.heap.objs.size<=a):a∉X.fs:=fun hb=>by
 obtain⟨_,o,ho,_⟩:=I.ok.funs.mem hb;exact absurd (zL (zG ho) (zN I.sz h)) (yV _)
theorem Inv.cne(I:Inv X pins σ H s):∀x c,X.env.cells.lookup x=some c ->c≠X.env.locals:=fun x c e z=>by
 obtain⟨v,o,ho,hd⟩:=I.cell x c e;obtain⟨m,⟨o',es,ep,ho',hd',_⟩,_⟩:=I.loc;rw[z,ho'] at ho;cases ho;rw[hd'] at hd;cases hd
theorem Inv.funs(I:Inv X pins σ H s):s.heap.FunFrames X.base X.outer:=by
 have all:∀(l:List Env),(∀b∈frs l,b∈X.fs) ->X.s₀.heap.FunFrames X.base l ->s.heap.FunFrames X.base l:=by
  intro l;induction l with
  | nil=>intro _ _;trivial
  | cons env r ih=>
   intro hs hl;obtain⟨hk,⟨L,o,hf,hn,ho,hd⟩,hr⟩:=hl;have hL:L∈X.fs:=hs L (by unfold frs;rw[List.filterMap_cons,hf];exact zW)
   obtain⟨sl,e⟩:=I.base.slot L o ho (I.ok.Ci L hL) hL fun z=>I.ok.wU L z hL;exact⟨hk,⟨L,_,hf,hn,e,hd⟩,ih (fun b hb=>hs b (by unfold frs;rw[List.filterMap_cons,hf];exact zV _ hb)) hr⟩
 exact all X.outer (fun _ hb=>hb) I.ok.funs
theorem Inv.stack(I:Inv X pins σ H s):s.heap.FunFrames X.base X.stack:=by
 rcases I.ok.stk with e | ⟨e,hf⟩
 ·rw[e];exact I.funs
 ·rw[e];obtain⟨m,hn,_⟩:=I.loc;refine .cons (by rw[I.ok.kind];decide) hf hn ?_ I.funs
  exact Heap.get?_none_of_le (zN I.ok.zy I.ok.above)
theorem Inv.stkSub(I:Inv X pins σ H s):∀b∈frs X.stack,b∈X.env.locals::X.fs:=fun b hb=>by
 rcases I.ok.stk with e | ⟨e,hf⟩
 ·rw[e] at hb;exact zV _ hb
 ·rw[e] at hb;unfold frs at hb;rw[List.filterMap_cons,hf] at hb;exact hb
theorem Inv.stkFree(I:Inv X pins σ H s):∀b∈frs X.stack,H b=none:=fun b hb=>by
 rcases zT.mp (I.stkSub b hb) with e | hb
 ·rw[e];exact I.free
 ·obtain⟨_,o,ho,_⟩:=I.ok.funs.mem hb;exact I.base.free b o ho (I.ok.Ci b hb) fun z=>I.ok.wU b z hb
theorem Inv.step{g' :Array GenState}{t' :Nat}{d' :Drawn}{ch:List Addr}(I:Inv X pins σ H s)
  (hch:∀b∈ch,(b∈X.ex\/X.s₀.heap.objs.size<=b)/\b≠X.env.locals/\ (∀x c,X.env.cells.lookup x=some c ->c≠b)/\∀p∈X.pn++pins,p.1≠b)
  (keep:∀b o,b≠X.env.locals ->b∉X.fs ->b∉ch ->s.heap.get? b=some o ->H b=none ->h'.get? b=some o)
  (slot:∀b o,b≠X.env.locals ->b∈X.fs ->b∉ch ->s.heap.get? b=some o ->H b=none ->∃sl,h'.get? b=some {o with slots:=sl}) (free:∀b o,b∉ch ->s.heap.get? b=some o ->H b=none ->H' b=none)
  (there:∀b o,b∉ch ->s.heap.get? b=some o ->∃o',h'.get? b=some o')
  (tups:∀b xs,H b=some (.tup xs) ->H' b=some (.tup xs)) (lM:∀b o u,H b=some (.frz o u) ->H' b=some (.frz o u)) (mH:∀b ps,H b=some (.vJ ps) ->∃more,H' b=some (.vJ (ps++more)))
  (ns:∀m,s.heap.Ns X.env.locals m ->h'.Ns X.env.locals m) (hok:gR X.prog X.w H' h') (hg:AllBare g'):
  Inv X pins σ H' {s with heap:=h',gens:=g',drawn:=d',toks:=t'}:=by
 have Uz:∀b o,X.s₀.heap.get? b=some o ->b≠X.env.locals:=fun b o e=>zJ (zL (zG e) I.ok.above);have Ib:∀b o,X.s₀.heap.get? b=some o ->b∉X.ex ->b∉ch:=fun b o e hx hb=>by
  rcases(hch b hb).1 with z | z
  ·exact hx z
  ·exact absurd (zL (zG e) z) (yV _)
 have cellK:∀x c,X.env.cells.lookup x=some c ->∀v,s.heap.IsCell c v ->h'.IsCell c v:=fun x c e v ⟨o,ho,hd⟩=>by
  have Cj:c∉ch:=fun z=>(hch c z).2.2.1 x c e rfl;by_cases hc:c∈X.fs
  ·obtain⟨sl,q⟩:=slot c o (I.cne x c e) hc Cj ho (I.freeC x c e);exact⟨_,q,hd⟩
  ·exact⟨o,keep c o (I.cne x c e) hc Cj ho (I.freeC x c e),hd⟩
 refine⟨I.ok,I.os,hg,⟨fun b o e n hb hx=> ?_,fun b o e n hb hx=> ?_,fun b o e n hx=> ?_,fun b o e hx=> ?_,fun b xs e=>tups b xs (I.base.tups b xs e),fun b o xs e=>lM b o xs (I.base.lM b o xs e),fun b ps e=> ?_⟩,?_,fun x c e=> ?_,?_,fun x c e=> ?_,fun p hp=> ?_,hok,I.len⟩
 ·exact keep b o (Uz b o e) hb (Ib b o e hx) (I.base.keep b o e n hb hx) (I.base.free b o e n hx)
 ·obtain⟨sl,e1⟩:=I.base.slot b o e n hb hx;obtain⟨sl',e2⟩:=slot b _ (Uz b o e) hb (Ib b o e hx) e1 (I.base.free b o e n hx);exact⟨sl',e2⟩
 ·obtain⟨o',e1⟩:=I.base.there b o e hx;exact free b o' (Ib b o e hx) e1 (I.base.free b o e n hx)
 ·obtain⟨o',e1⟩:=I.base.there b o e hx;exact there b o' (Ib b o e hx) e1
 ·obtain⟨m1,e1⟩:=I.base.mH b ps e;obtain⟨m2,e2⟩:=mH b _ e1;exact⟨m1++m2,by rw[e2,Array.append_assoc]⟩
 ·obtain⟨m,hn,hl⟩:=I.loc;refine⟨m,ns m hn,fun i x v e1 e2 e3=> ?_⟩;obtain⟨u,r,l⟩:=hl i x v e1 e2 e3;refine⟨u,r,?_⟩;rcases l with l | ⟨k,c,e,z⟩
  ·exact .inl l
  ·exact .inr ⟨k,c,e,cellK x c e _ z⟩
 ·obtain⟨v,z⟩:=I.cell x c e;exact⟨v,cellK x c e v z⟩
 ·obtain⟨m,⟨o,_,_,ho,_⟩,_⟩:=I.loc;exact free _ o (fun z=>(hch _ z).2.1 rfl) ho I.free
 ·obtain⟨v,o,ho,hd⟩:=I.cell x c e;exact free c o (fun z=>(hch c z).2.2.1 x c e rfl) ho (I.freeC x c e)
 ·obtain⟨e,n,ne,nf,d⟩:=I.pin p hp;have Cj:p.1∉ch:=fun z=>(hch p.1 z).2.2.2 p hp rfl;exact⟨keep p.1 p.2 ne nf Cj e n,free p.1 p.2 Cj e n,ne,nf,d⟩
theorem Inv.un{t' :Nat}(I:Inv X pins σ H s)(u:Un X.fs [] H H' s.heap h')(hok:gR X.prog X.w H' h'):Inv X pins σ H' {s with heap:=h',toks:=t'}:=by
 obtain⟨m,⟨o,es,ep,ho,r⟩,_⟩:=id I.loc;obtain⟨sl,hL⟩:=u.any ho I.free (by simp)
 exact I.step (g' :=s.gens) (d' :=s.drawn) (ch:= []) (fun _ z=>nomatch z) (fun b o _ hb _ e n=>u.keep b o e n hb (by simp)) (fun b o _ hb _ e n=>u.slot b o e n hb (by simp)) (fun b o _ e n=>u.free b o e n (by simp)) (fun b o _ e=>u.there b o e (by simp)) u.tups u.lM u.mH (fun m' hm=>by
  obtain⟨o',es',ep',ho',r'⟩:=hm;rw[ho] at ho';cases ho';exact⟨_,es',ep',hL,r'⟩) hok I.bare
theorem Inv.call{g' :Array GenState}{t' :Nat}{d' :Drawn}{ch:List Addr}(I:Inv X pins σ H s)(u:Un (frs X.stack) ch H H' s.heap h')(hok:gR X.prog X.w H' h')(hg:AllBare g')
  (hch:∀b∈ch,(b∈X.ex\/X.s₀.heap.objs.size<=b)/\b≠X.env.locals/\ (∀x c,X.env.cells.lookup x=some c ->c≠b)/\∀p∈X.pn++pins,p.1≠b):
  Inv X pins σ H' {s with heap:=h',gens:=g',drawn:=d',toks:=t'}:=by
 obtain⟨m,⟨o,es,ep,ho,r⟩,_⟩:=id I.loc;obtain⟨sl,hL⟩:=u.any ho I.free fun z=>(hch _ z).2.1 rfl;exact I.step (ch:=ch) hch (fun b o hL hb hc e n=>u.keep b o e n (fun z=>(zT.mp (I.stkSub b z)).elim hL hb) hc) (fun b o _ _ hc e n=>u.any e n hc) (fun b o hc e n=>u.free b o e n hc) (fun b o hc e=>u.there b o e hc) u.tups u.lM u.mH (fun m' hm=>by
  obtain⟨o',es',ep',ho',r'⟩:=hm;rw[ho] at ho';cases ho';exact⟨_,es',ep',hL,r'⟩) hok hg
theorem Inv.turned{t' :Nat}{it:Addr}(I:Inv X pins σ H s)(k:∀b o,b≠it ->s.heap.get? b=some o ->h'.get? b=some o)(hn:H it=none)(hL:it≠X.env.locals)
  (h1:it∈X.ex\/X.s₀.heap.objs.size<=it) (h2:∀x c,X.env.cells.lookup x=some c ->c≠it) (h3:∀p∈X.pn++pins,p.1≠it):Inv X pins σ H {s with heap:=h',toks:=t'}:=by
 have Ck:∀b u,H b=some u ->b≠it:=fun b u e z=>by rw[z,hn] at e;cases e
 refine I.step (g' :=s.gens) (d' :=s.drawn) (ch:= [it]) (fun b hb=> ?_) (fun b o _ _ hc e _=>k b o (fun z=>hc (by simp [z])) e) (fun b o _ _ hc e _=>⟨o.slots,k b o (fun z=>hc (by simp [z])) e⟩) (fun _ _ _ _ n=>n)
  (fun b o hc e=>⟨o,k b o (fun z=>hc (by simp [z])) e⟩) (fun _ _ e=>e) (fun _ _ _ e=>e) (fun b ps e=>⟨#[],by rw[e];simp⟩) (fun m hm=> ?_) (fun b u e=> ?_) I.bare
 ·have e:b=it:=by simpa using hb
  subst e;exact⟨h1,hL,h2,h3⟩
 ·obtain⟨o,es,ep,ho,r⟩:=hm;exact⟨o,es,ep,k _ o (Ne.symm hL) ho,r⟩
 ·refine(I.hok b u e).stay (fun c v hc q=>k c v ?_ q) (fun _ q=>q) fun _ _ q=>q;rcases hc with z | z
  ·rw[z];exact Ck b u e
  ·exact Ck c _ z
theorem Inv.tok(I:Inv X pins σ H s)(t:Nat):Inv X pins σ H {s with toks:=t}:=I.un (h' :=s.heap) (t' :=t) Un.refl I.hok
theorem Inv.kept{t' :Nat}(I:Inv X pins σ H s)(k:∀b u,s.heap.get? b=some u ->h'.get? b=some u):Inv X pins σ H {s with heap:=h',toks:=t'}:=I.un (Un.kept k) (I.hok.kept k)
theorem Inv.laid{a:Addr}{o:HO}{t' :Nat}(I:Inv X pins σ H s)(k:∀b u,s.heap.get? b=some u ->h'.get? b=some u)(hp:s.heap.objs.size<=a)(new:bB X.prog X.w (upd H a o) h' a o):
  Inv X pins σ (upd H a o) {s with heap:=h',toks:=t'}:=I.un (Un.laid k hp (I.hok.fresh hp)) (I.hok.laid k hp new)
theorem Inv.write{x e:Addr}{o:HO}{t' :Nat}(I:Inv X pins σ H s)(mu:Ca (H x))(he:e=x\/H e=some (.own x))(k:∀b u,b≠e ->s.heap.get? b=some u ->h'.get? b=some u)(heo:∃u,h'.get? e=some u)
  (new:bB X.prog X.w (upd H x o) h' x o):Inv X pins σ (upd H x o) {s with heap:=h',toks:=t'}:=I.un (Un.write mu he k heo) (I.hok.write mu he k heo new)
theorem Inv.pins_of{pG :bw}(I:Inv X pins σ H s)(h:∀p∈pG,s.heap.get? p.1=some p.2/\H p.1=none/\p.1≠X.env.locals/\p.1∉X.fs/\∀v,p.2.data≠ .cell v):Inv X pG σ H s:=
 ⟨I.ok,I.os,I.bare,I.base,I.loc,I.cell,I.free,I.freeC,fun p hp=>(zR.mp hp).elim (fun z=>I.pin p (zO _ z)) (h p),I.hok,I.len⟩
theorem UG{N:List Str}(hN:N.Nodup){i j:Nat}{x:Str}(a:N[i]?=some x)(b:N[j]?=some x):i=j:=by
 obtain⟨h1,e1⟩:=zU.mp a;obtain⟨h2,e2⟩:=zU.mp b;exact(List.getElem_inj hN).mp (e1.trans e2.symm)
theorem UJ{M:Model}{A:Around}{E:bG}{i:Nat}{x:Str}{v:V}{u:Value}{Q:Unit ->Shared ->Prop}(I:Inv X pins σ H s)(hN:X.N.Nodup)(hi:X.N[i]?=some x)(hx:Loc X.env.scope x)(r:RelV v u)
  (h:∀s',Inv X pins (σ.set i (some v)) H s' ->(∃a,Heap.SameBut a s.heap s'.heap/\ (a=X.env.locals\/X.env.cells.lookup x=some a)) ->Q () s') (hf:X.fn x=true\/X.env.scope.names.lookup x=some .local:=by first | exact .inl rfl | exact .inr rfl | assumption):wpAny M A (storeName X.env x u) Q E s:=by
 obtain⟨m,hn,hl⟩:=id I.loc;have hcls:(X.env.scope.kind== .class || (X.env.scope.kind== .module&&X.env.locals !=X.env.globals))=false:=by rw[I.ok.kind];rfl
 have UL:i<σ.length:=by rw[I.len];exact(zU.mp hi).1
 have cne:=I.cne;have tracked:∀{a:Addr} {h' :Heap},(∃o,s.heap.get? a=some o/\H a=none) ->Heap.SameBut a s.heap h' ->gR X.prog X.w H h' :=fun{a h'} ha hs b ob e=>by
  obtain⟨_,_,hfree⟩:=ha;refine(I.hok b ob e).stay (fun c w' hc q=>(hs.2 c ?_).trans q) (fun _ q=>q) fun _ _ q=>q;rintro rfl;rcases hc with rfl | hc
  ·rw[hfree] at e;cases e
  ·rw[hfree] at hc;cases hc
 rcases hx with hk | hk
 ·refine wpAny_storeName_local hk hn (fun h' hn' hs=> ?_) hcls;obtain⟨oL,_,_,hoL,_⟩:=id hn;refine h _ ⟨I.ok,I.os,I.bare,⟨fun b o e n hb hx=> ?_,fun b o e n hb hx=> ?_,I.base.free,fun b o e hx=> ?_,I.base.tups,I.base.lM,I.base.mH⟩,⟨_,hn',fun j y v' e1 e2 e3=> ?_⟩,fun y c e=> ?_,I.free,I.freeC,fun p hp=> ?_,tracked ⟨oL,hoL,I.free⟩ hs,by simpa using I.len⟩ ⟨_,hs,.inl rfl⟩
  ·exact(hs.2 b (zJ (zL (zG e) I.ok.above))).trans (I.base.keep b o e n hb hx)
  ·obtain⟨sl,e1⟩:=I.base.slot b o e n hb hx;exact⟨sl,(hs.2 b (zJ (zL (zG e) I.ok.above))).trans e1⟩
  ·obtain⟨o',e1⟩:=I.base.there b o e hx;exact⟨o',(hs.2 b (zJ (zL (zG e) I.ok.above))).trans e1⟩
  ·by_cases hj:j=i
   ·subst hj;rw[hi] at e1;cases e1;rw[List.getElem?_set_self UL] at e2;cases e2;exact⟨u,r,.inl ⟨hk,by simp⟩⟩
   ·rw[List.getElem?_set_ne (Ne.symm hj)] at e2;obtain⟨u',r',q⟩:=hl j y v' e1 e2 e3;refine⟨u',r',?_⟩;rcases q with ⟨k,e⟩ | ⟨k,c,e,z⟩
    ·refine .inl ⟨k,?_⟩;have:y≠x:=fun e=>hj (UG hN e1 (e ▸ hi));simp [this,e]
    ·exact .inr ⟨k,c,e,z.sameBut hs (cne y c e)⟩
  ·obtain⟨w',z⟩:=I.cell y c e;exact⟨w',z.sameBut hs (cne y c e)⟩
  ·obtain⟨e,n,ne,nf,d⟩:=I.pin p hp;exact⟨(hs.2 p.1 ne).trans e,n,ne,nf,d⟩
 ·have hfn:X.fn x=true:=by
   rcases hf with z | z
   ·exact z
   ·rw[z] at hk;cases hk
  obtain⟨c,hc⟩:=I.ok.has x (.inl hk);obtain⟨w',z⟩:=I.cell x c hc;refine wpAny_storeName_cell I.ok.kind hk hc z (fun h' hc' hs=> ?_);obtain⟨oc,hoc,K5⟩:=id z;refine h {s with heap:=h'} ⟨I.ok,I.os,I.bare,⟨fun b o e n hb hx=> ?_,fun b o e n hb hx=> ?_,I.base.free,fun b o e hx=> ?_,I.base.tups,I.base.lM,I.base.mH⟩,⟨m,hn.sameBut hs (Ne.symm (cne x c hc)),fun j y v' e1 e2 e3=> ?_⟩,fun y c' e=> ?_,I.free,I.freeC,fun p hp=> ?_,tracked ⟨oc,hoc,I.freeC x c hc⟩ hs,by simpa using I.len⟩ ⟨c,hs,.inr hc⟩
  ·exact(hs.2 b (zJ (zL (zG e) (I.ok.cab x c hfn hc)))).trans (I.base.keep b o e n hb hx)
  ·obtain⟨sl,e1⟩:=I.base.slot b o e n hb hx;exact⟨sl,(hs.2 b (zJ (zL (zG e) (I.ok.cab x c hfn hc)))).trans e1⟩
  ·obtain⟨o',e1⟩:=I.base.there b o e hx;exact⟨o',(hs.2 b (zJ (zL (zG e) (I.ok.cab x c hfn hc)))).trans e1⟩
  ·by_cases hj:j=i
   ·subst hj;rw[hi] at e1;cases e1;rw[List.getElem?_set_self UL] at e2;cases e2;exact⟨u,r,.inr ⟨.inl hk,c,hc,hc'⟩⟩
   ·rw[List.getElem?_set_ne (Ne.symm hj)] at e2;obtain⟨u',r',q⟩:=hl j y v' e1 e2 e3;refine⟨u',r',?_⟩;rcases q with q | ⟨k,c',e,z'⟩
    ·exact .inl q
    ·refine .inr ⟨k,c',e,z'.sameBut hs ?_⟩;rintro rfl;exact hj (UG hN e1 (I.ok.inj _ _ _ e hc ▸ hi))
  ·by_cases hcc:c' =c
   ·subst hcc;exact⟨_,hc'⟩
   ·obtain⟨w2,z2⟩:=I.cell y c' e;exact⟨w2,z2.sameBut hs hcc⟩
  ·obtain⟨e,n,ne,nf,d⟩:=I.pin p hp;refine⟨(hs.2 p.1 ?_).trans e,n,ne,nf,d⟩;intro q;rw[q,hoc] at e;have q' :oc=p.2:=zF e;exact d w' (by rw[<- q'];exact K5)
theorem Ie{M:Model}{A:Around}{E:bG}{i:Nat}{x:Str}{v:V}{u:Value}{Q:Unit ->Shared ->Prop}(I:Inv X pins σ H s)(hN:X.N.Nodup)(hi:X.N[i]?=some x)(hx:Loc X.env.scope x)(r:RelV v u)
  (h:∀s',Inv X pins (σ.set i (some v)) H s' ->Q () s') (hf:X.fn x=true\/X.env.scope.names.lookup x=some .local:=by first | exact .inl rfl | exact .inr rfl | assumption):wpAny M A (storeName X.env x u) Q E s:=
 UJ I hN hi hx r (fun s' I' _=>h s' I') hf
theorem Inv.call'{s' :Shared}{ch:List Addr}(I:Inv X pins σ H s)(ho:s'.os=s.os)(u:Un (frs X.stack) ch H H' s.heap s'.heap)(hok:gR X.prog X.w H' s'.heap)(hg:AllBare s'.gens)
  (hch:∀b∈ch,(b∈X.ex\/X.s₀.heap.objs.size<=b)/\b≠X.env.locals/\ (∀x c,X.env.cells.lookup x=some c ->c≠b)/\∀p∈X.pn++pins,p.1≠b):Inv X pins σ H' s' :=by
 obtain⟨h',g',d',t',o'⟩:=s';have e:o' =s.os:=ho;subst e;exact I.call (g' :=g') (t' :=t') (d' :=d') u hok hg hch
end
abbrev XK:=Value ->Option Addr ->Hp ->Prop
abbrev St:=List (Option V)
abbrev VK:=V ->Hp ->Prop
abbrev TE:=St ->Hp ->VK ->Prop
abbrev TT:=St ->Hp ->(Bool ->Hp ->Prop) ->Prop
abbrev TA:=St ->Hp ->(List V ->Hp ->Prop) ->Prop
structure Ends where
 nx:St ->Hp ->Prop
 rt:VK
 bk:St ->Hp ->Prop:=fun _ _=>False
 ct:St ->Hp ->Prop:=fun _ _=>False
abbrev TS:=Ends ->St ->Hp ->Prop
def EP(X:Cx)(pins:bw)(σ:St)(Q:VK)(u:Value)(s' :Shared):Prop:=∃v H',Inv X pins σ H' s' /\RelV v u/\Q v H'
def TP(X:Cx)(pins:bw)(σ:St)(Q:Bool ->Hp ->Prop)(b:Bool)(s' :Shared):Prop:=∃H',Inv X pins σ H' s' /\Q b H'
def AP(X:Cx)(pins:bw)(σ:St)(Q:List V ->Hp ->Prop)(us:List Value)(s' :Shared):Prop:=∃vs H',Inv X pins σ H' s' /\Vals vs us/\Q vs H'
def SP(X:Cx)(pins:bw)(D:Ends)(f:Flow)(s' :Shared):Prop:=
 match f with
 | .next=>∃σ' H',Inv X pins σ' H' s' /\D.nx σ' H'
 | .brk=>∃σ' H',Inv X pins σ' H' s' /\D.bk σ' H'
 | .cont=>∃σ' H',Inv X pins σ' H' s' /\D.ct σ' H'
 | .ret u=>∃v σ' H',Inv X pins σ' H' s' /\RelV v u/\D.rt v H'
def PE(X:Cx)(e:Expr)(t:TE):Prop:=
 ∀(pins:bw) (s:Shared) (σ:St) (H:Hp) (Q:VK),Inv X pins σ H s ->t σ H Q ->wpAny (model X.prog X.w) X.A (eval e X.env) (EP X pins σ Q) X.xe s
def PT(X:Cx)(e:Expr)(t:TT):Prop:=
 ∀(pins:bw) (s:Shared) (σ:St) (H:Hp) (Q:Bool ->Hp ->Prop),Inv X pins σ H s ->t σ H Q ->wpAny (model X.prog X.w) X.A (isTrue e X.env (eval e X.env)) (TP X pins σ Q) X.xe s
def PW(X:Cx)(e:Expr)(t:TT):Prop:=
 ∀(whole:Sem Value) (pins:bw) (s:Shared) (σ:St) (H:Hp) (Q:Bool ->Hp ->Prop),Inv X pins σ H s ->t σ H Q ->wpAny (model X.prog X.w) X.A (isTrue e X.env whole) (TP X pins σ Q) X.xe s
def PA(X:Cx)(es:List Expr)(t:TA):Prop:=
 ∀(pos:Pos) (pins:bw) (s:Shared) (σ:St) (H:Hp) (Q:List V ->Hp ->Prop),Inv X pins σ H s ->t σ H Q ->wpAny (model X.prog X.w) X.A (spliced (backTo pos (starEach es X.env))) (AP X pins σ Q) X.xe s
def PS(X:Cx)(st:Stmt)(t:TS):Prop:=
 ∀(pins:bw) (s:Shared) (σ:St) (H:Hp) (D:Ends),Inv X pins σ H s ->t D σ H ->wpAny (model X.prog X.w) X.A (exec st X.env) (SP X pins D) X.xe s
def qW(X:Cx)(st:List Stmt)(t:TS):Prop:=
 ∀(pins:bw) (s:Shared) (σ:St) (H:Hp) (D:Ends),Inv X pins σ H s ->t D σ H ->wpAny (model X.prog X.w) X.A (execs st X.env) (SP X pins D) X.xe s
theorem bF{α:Type}{t:Sem α}{Q Q' :α ->Shared ->Prop}{M:Model}{A:Around}{E:bG}{s:Shared}(h:wpAny M A t Q E s)(hQ:∀a s,Q a s ->Q' a s):wpAny M A t Q' E s:=wpAny_mono h hQ fun _ _ x=>x
section
variable{X:Cx}
def Cm(i:Nat):TE:=fun σ H Q=>∃v,σ[i]?=some (some v)/\Q v H
def tC(v:V):TE:=fun _ H Q=>Q v H
theorem rD{i:Nat}{x:Str}{pos:Pos}(hN:X.N[i]?=some x)(hv:oO X.env.scope x)(hd:(x==("__debug__" :Str))=false:=by decide)(hcd:(x==("__classdict__" :Str))=false:=by decide):PE X (.Name x pos) (Cm i):=by
 intro pins s σ H Q I h;obtain⟨v,e,h⟩:=h;obtain⟨m,hn,hl⟩:=I.loc;obtain⟨u,r,l⟩:=hl i x v hN e hv;have fin:EP X pins σ Q u s:=⟨v,H,I,r,h⟩;rcases l with ⟨hk,hm⟩ | ⟨hk,c,hc,hcell⟩
 ·exact wpAny_Name (wpAny_loadName_local I.ok.kind hk hn hm fin) hd
 ·rcases hk with hk | hk
  ·exact wpAny_Name (wpAny_loadName_cell I.ok.kind hk hc hcell fin) hd
  ·exact wpAny_Name (wpAny_loadName_free I.ok.kind hk hc hcell fin hcd) hd
theorem UW{i j pos}:PE X (.Constant (.int i) j pos) (tC (.int i)):=fun _ _ _ H _ I h=>wpAny_Constant_int ⟨.int i,H,I.tok _,⟨_,rfl⟩,h⟩
theorem z5w{b j pos}:PE X (.Constant (.bool b) j pos) (tC (.bl b)):=fun _ _ _ H _ I h=>Constant_bool ⟨.bl b,H,I,rfl,h⟩
theorem z4d{x j pos}:PE X (.Constant (.str x) j pos) (tC (.str x)):=fun _ _ _ H _ I h=>Calls.Constant_str ⟨.str x,H,I.tok _,⟨_,rfl⟩,h⟩
def Gl(X:Cx)(x:Str):Prop:=X.env.kindOf x=some .globalImplicit
theorem K6{E:bG}{pins:bw}{s:Shared}{σ:St}{H:Hp}{x:Str}{u:Value}{pos:Pos}{Q:bG}(I:Inv X pins σ H s)(hg:Gl X x)(hm:X.mg x=some u)(h:Q u s)
  (hd:(x==("__debug__" :Str))=false:=by decide):wpAny (model X.prog X.w) X.A (eval (.Name x pos) X.env) Q E s:=
 Calls.Name_function_global I.ok.kind hg (Calls.loadGlobal_global (by rw[I.ok.glob];exact I.mod.glob.keeps I.bk) hm h) hd
theorem vK{E:bG}{pins:bw}{s:Shared}{σ:St}{H:Hp}{x:Str}{u:Value}{pos:Pos}{Q:bG}(I:Inv X pins σ H s)(hg:Gl X x)(hm:X.mg x=none)(hv:bootBuiltins x=some u)(h:Q u s)
  (hn:x≠ "__name__" :=by decide) (hd:(x==("__debug__" :Str))=false:=by decide):wpAny (model X.prog X.w) X.A (eval (.Name x pos) X.env) Q E s:=by
 obtain⟨mb,h1,h2⟩:=I.mod.blt;exact Calls.Name_function_global I.ok.kind hg (Calls.loadGlobal_builtin (by rw[I.ok.glob];exact I.mod.glob.keeps I.bk) hm (by rw[I.ok.blt];exact h1.keeps I.bk) ((h2 x hn).trans hv) h) hd
def Ig(ta tb:TE)(k:Int ->Int ->Hp ->Prop):St ->Hp ->Prop:=fun σ H=>ta σ H fun x H1=>tb σ H1 fun y H2=>∃i j,x= .int i/\y= .int j/\k i j H2
def aac(ta tb:TE):TE:=fun σ H Q=>Ig ta tb (fun i j H2=>Q (.int (i+j)) H2) σ H
def aad(ta tb:TE):TE:=fun σ H Q=>Ig ta tb (fun i j H2=>Q (.int (i - j)) H2) σ H
def aae(ta tb:TE):TE:=fun σ H Q=>Ig ta tb (fun i j H2=>(-(2^64)<i/\i<2^64)/\Q (.int (i*j)) H2) σ H
variable{a b:Expr}{ta tb:TE}{pos:Pos}
def PC(X:Cx)(op:CmpOp)(a b:Expr)(t:TE):Prop:=
 ∀(pins:bw) (s:Shared) (σ:St) (H:Hp) (Q:VK),Inv X pins σ H s ->t σ H Q ->
  wpAny (model X.prog X.w) X.A (eval a X.env) (fun v s₁=>wpAny (model X.prog X.w) X.A (eval b X.env) (fun u s₂=>wpAny (model X.prog X.w) X.A (compareOp op v u) (EP X pins σ Q) X.xe s₂) X.xe s₁) X.xe s
def qg(p:Int ->Int ->Bool)(ta tb:TE):TE:=fun σ H Q=>Ig ta tb (fun i j H2=>Q (.bl (p i j)) H2) σ H
abbrev tLt:TE ->TE ->TE:=qg fun i j=>decide (i<j)
abbrev tLe:TE ->TE ->TE:=qg fun i j=>decide (i<=j)
abbrev tGt:TE ->TE ->TE:=qg fun i j=>decide (j<i)
abbrev tGe:TE ->TE ->TE:=qg fun i j=>decide (j<=i)
abbrev aaf:TE ->TE ->TE:=qg fun i j=>decide (i=j)
abbrev aag:TE ->TE ->TE:=qg fun i j=> !decide (i=j)
def aah(ta:TE):TE:=fun σ H Q=>ta σ H fun x H1=>Q (.bl (decide (x= .non))) H1
def U0(ta:TE):TE:=fun σ H Q=>ta σ H fun x H1=>Q (.bl (!decide (x= .non))) H1
def tB(t:TE):TT:=fun σ H Q=>t σ H fun x H1=>∃c,x= .bl c/\Q c H1
theorem U3{op:CmpOp}{t:TE}(h:PC X op a b t)(h1:behindInMarks op b=false:=by first | exact Cp _ (by decide) (by decide) | rfl):PT X (.Compare a [op] [b] pos) (tB t):=by
 intro pins s σ H Q I hw;refine wpAny_isTrue_Compare1 (bF (h pins s σ H _ I hw) fun v s1 h1=>bF h1 fun u s2 h2=>bF h2 fun c s3 ⟨x,H1,I1,r1,q1⟩=> ?_) h1;obtain⟨d,rfl,q⟩:=q1;cases r1;exact wpAny_truthy_bool ⟨H1,I1,q⟩
theorem z2z{e:Expr}{t:TE}(h:PE X e t)(he:∀whole,isTrue e X.env whole=(do let v<- whole;standAt e.pos;holding [v] (truthy v)):=by intro _;rfl):PT X e (tB t):=by
 intro pins s σ H Q I hw;refine isTrue_plain (bF (h pins s σ H _ I hw) fun v s1 ⟨x,H1,I1,r1,q1⟩=> ?_) (he _);obtain⟨d,rfl,q⟩:=q1;cases r1;exact wpAny_truthy_bool ⟨H1,I1,q⟩
variable{tA tB' :TT}{rest:List Expr}
def aai(t u:TT):TT:=fun σ H Q=>t σ H fun c H1=>if c=true then u σ H1 Q else Q false H1
def tOr(t u:TT):TT:=fun σ H Q=>t σ H fun c H1=>if c=true then Q true H1 else u σ H1 Q
def K7(t:TT):TT:=fun σ H Q=>t σ H fun c H1=>Q (!c) H1
theorem z2l(ha:PT X a tA):PT X (.UnaryOp .Not a pos) (K7 tA):=by
 intro pins s σ H Q I h;exact isTrue_not (ha pins s σ H (fun c H1=>Q (!c) H1) I h)
def Cq(ta tb:TE):TE:=fun σ H Q=>ta σ H fun x H1=>∃c,x= .bl c/\if c=true then tb σ H1 Q else Q (.bl false) H1
def K8(ta tb:TE):TE:=fun σ H Q=>ta σ H fun x H1=>∃c,x= .bl c/\if c=true then Q (.bl true) H1 else tb σ H1 Q
def U4(ta:TE):TE:=fun σ H Q=>ta σ H fun x H1=>∃c,x= .bl c/\Q (.bl (!c)) H1
theorem z2p{op}{t:TE}(h:PE X a t):PE X (.BoolOp op [a] pos) t:=fun pins s σ H Q I hw=>BoolOp_one (h pins s σ H Q I hw)
theorem z3n(ha:PE X a ta)(hb:PE X (.BoolOp .And (b::rest) pos) tb):PE X (.BoolOp .And (a::b::rest) pos) (Cq ta tb):=by
 intro pins s σ H Q I h;refine BoolOp_and (bF (ha pins s σ H _ I h) fun v s1 uN=> ?_);obtain⟨x,H1,I1,r1,q1⟩:=uN;obtain⟨c,rfl,q1⟩:=q1;cases r1;refine wpAny_truthy_bool ?_;cases c with
 | true=>exact hb pins s1 σ H1 Q I1 q1
 | false=>exact⟨.bl false,H1,I1,rfl,q1⟩
theorem z5q(ha:PE X a ta)(hb:PE X (.BoolOp .Or (b::rest) pos) tb):PE X (.BoolOp .Or (a::b::rest) pos) (K8 ta tb):=by
 intro pins s σ H Q I h;refine BoolOp_or (bF (ha pins s σ H _ I h) fun v s1 hq8=> ?_);obtain⟨x,H1,I1,r1,q1⟩:=hq8;obtain⟨c,rfl,q1⟩:=q1;cases r1;refine wpAny_truthy_bool ?_;cases c with
 | false=>exact hb pins s1 σ H1 Q I1 q1
 | true=>exact⟨.bl true,H1,I1,rfl,q1⟩
def tIf(t:TT)(ta tb:TE):TE:=fun σ H Q=>t σ H fun c H1=>if c=true then ta σ H1 Q else tb σ H1 Q
theorem zw2{c:Expr}(hc:PT X c tA)(ha:PE X a ta)(hb:PE X b tb):PE X (.IfExp c a b pos) (tIf tA ta tb):=by
 intro pins s σ H Q I h;refine wpAny_IfExp (bF (hc pins s σ H _ I h) fun d s1 ⟨H1,I1,q1⟩=> ?_);cases d with
 | true=>exact ha pins s1 σ H1 Q I1 q1
 | false=>exact hb pins s1 σ H1 Q I1 q1
end
def fO(K:W.Frag)(H:Hp)(a:Addr)(xs:List V):Prop:=
 Rd H a (.lst xs)\/
  ∃(o:Obj) (its:Array Value) (n:Nat),K.lookup a=some o/\o.cls= .type "list" /\o.dict=none/\o.data= .seq its n/\its.size<=sizeLine/\Vals xs its.toList
def iK(K:W.Frag)(H:Hp)(a:Addr)(xs:List V):Prop:=
 Rd H a (.tup xs)\/
  ∃(o:Obj) (its:Array Value) (n:Nat),K.lookup a=some o/\o.cls= .type "tuple" /\o.data= .seq its n/\its.size<=sizeLine/\Vals xs its.toList
def K9:Value ->Option V
 | .none=>some .non
 | .bool b=>some (.bl b)
 | .int i _=>some (.int i)
 | .str x _=>some (.str x)
 | .bytes b _=>some (.wQ b)
 | .float b _=>some (.flt b)
 | .ref a=>some (.ref a)
 | .type n=>some (.ty n)
 | _=>none
theorem RelV.abs{x:V}{u:Value}(r:RelV x u):K9 u=some x:=by
 cases x with
 | non=>cases r;rfl
 | bl _=>cases r;rfl
 | int _=>obtain⟨t,rfl⟩:=r;rfl
 | str _=>obtain⟨t,rfl⟩:=r;rfl
 | wQ _=>obtain⟨t,rfl⟩:=r;rfl
 | flt _=>obtain⟨t,rfl⟩:=r;rfl
 | ref _=>cases r;rfl
 | ty _=>cases r;rfl
theorem RelV.inj{x y:V}{u:Value}(r:RelV x u)(q:RelV y u):x=y:=zF (r.abs.symm.trans q.abs)
theorem Vals.inj:∀{xs ys:List V} {us:List Value},Vals xs us ->Vals ys us ->xs=ys
 | _,_,_,.nil,.nil=>rfl
 | _,_,_,.cons r t,.cons r' t' =>by rw[r.inj r',Vals.inj t t']
section
variable{X:Cx}{pins:bw}{σ:St}{H:Hp}{s:Shared}{a:Addr}{xs ys:List V}
theorem Inv.list(I:Inv X pins σ H s)(h:fO X.K H a xs):∃its:List Value,Vals xs its/\PlainL s.heap a its.toArray/\xs.length<=sizeLine:=by
 rcases h with h | ⟨o,its,n,hk,hc,hd,hs,hz,r⟩
 ·obtain⟨z,its,n,r,e⟩:=h.ok I.hok;exact⟨its,r,⟨_,n,e,rfl,rfl,rfl⟩,z⟩
 ·refine⟨its.toList,r,⟨o,n,I.kIn a o hk,hc,hd,by simpa using hs⟩,?_⟩
  have e:=r.length;simp only [Array.length_toList] at e;omega
theorem Inv.tuple(I:Inv X pins σ H s)(h:iK X.K H a xs):∃its:List Value,Vals xs its/\IsTup s.heap a its.toArray/\xs.length<=sizeLine:=by
 rcases h with h | ⟨o,its,n,hk,hc,hs,hz,r⟩
 ·obtain⟨z,its,r,p⟩:=h.ok I.hok;exact⟨its,r,p,z⟩
 ·refine⟨its.toList,r,⟨o,I.kIn a o hk,hc,n,by simpa using hs⟩,?_⟩
  have e:=r.length;simp only [Array.length_toList] at e;omega
theorem Inv.list_inj(I:Inv X pins σ H s)(h:fO X.K H a xs)(h' :fO X.K H a ys):xs=ys:=by
 obtain⟨its,r,⟨o,n,e,_,_,d⟩,_⟩:=I.list h;obtain⟨its',r',⟨o',n',e',_,_,d'⟩,_⟩:=I.list h';rw[e] at e';cases e';rw[d] at d';injection d' with d1 _;have:its=its' :=by simpa using congrArg Array.toList d1
 subst this;exact r.inj r'
theorem Inv.tuple_inj(I:Inv X pins σ H s)(h:iK X.K H a xs)(h' :iK X.K H a ys):xs=ys:=by
 obtain⟨its,r,⟨o,e,_,n,d⟩,_⟩:=I.tuple h;obtain⟨its',r',⟨o',e',_,n',d'⟩,_⟩:=I.tuple h';rw[e] at e';cases e';rw[d] at d';injection d' with d1 _;have:its=its' :=by simpa using congrArg Array.toList d1
 subst this;exact r.inj r'
end
abbrev Cx.wish(X:Cx)(E:bG):Cx:={X with xe:=E}
abbrev Cx.nox(X:Cx):Cx:=X.wish fun _ _=>False
section
variable{X:Cx}{pins:bw}{σ:St}{H:Hp}{s:Shared}{E:bG}
end
section
variable{X:Cx}{st:Stmt}{rest:List Stmt}{t u:TS}{e:Expr}{te:TE}{pos:Pos}
def Cr:TS:=fun D σ H=>D.nx σ H
def La(t u:TS):TS:=fun D σ H=>t {D with nx:=u D} σ H
theorem zz9:qW X [] Cr:=fun _ _ σ H _ I h=>wpAny_execs_nil ⟨σ,H,I,h⟩
theorem zv9(h1:PS X st t)(h2:qW X rest u):qW X (st::rest) (La t u):=by
 intro pins s σ H D I h;refine wpAny_execs_cons (bF (h1 pins s σ H {D with nx:=u D} I h) fun f s1 q=> ?_);cases f with
 | next=>
  obtain⟨σ',H',I',q⟩:=q;exact h2 pins s1 σ' H' D I' q
 | ret v=>exact q
 | brk=>exact q
 | cont=>exact q
theorem z1z(h1:PS X st t):qW X [st] t:=by
 intro pins s σ H D I h;refine wpAny_execs_cons (bF (h1 pins s σ H D I h) fun f s1 q=> ?_);cases f with
 | next=>exact wpAny_execs_nil q
 | ret v=>exact q
 | brk=>exact q
 | cont=>exact q
def Lb:TS:=fun D σ H=>D.bk σ H
def U5:TS:=fun D σ H=>D.ct σ H
theorem Inv.quiet{pins:bw}{σ:St}{H:Hp}{s:Shared}(I:Inv X pins σ H s):interactive X.env=false:=by simp [interactive,I.ok.kind]
def Cu(te:TE):TS:=fun D σ H=>te σ H fun _ H1=>D.nx σ H1
theorem z2e(he:PE X e te)(hs:swapsWith e none pos.line X.env=pure false:=by rfl):PS X (.Expr e pos) (Cu te):=by
 intro pins s σ H D I h;exact wpAny_Expr_any (bF (he pins s σ H _ I h) fun v s1 Ld=>by obtain⟨x,H1,I1,r1,q1⟩:=Ld;exact⟨σ,H1,I1,q1⟩) I.quiet hs
def Le(te:TE):TS:=fun D σ H=>te σ H D.rt
theorem U6(he:PE X e te):PS X (.Return (some e) pos) (Le te):=by
 intro pins s σ H D I h;exact wpAny_Return_some (bF (he pins s σ H _ I h) fun v s1 wV=>by obtain⟨x,H1,I1,r1,q1⟩:=wV;exact⟨x,σ,H1,I1,r1,q1⟩)
def U7:TS:=fun D _ H=>D.rt .non H
def Lf(c:TT)(t u:TS):TS:=fun D σ H=>c σ H fun b H1=>if b=true then t D σ H1 else u D σ H1
theorem z5u{c:Expr}{a b:List Stmt}{tc:TT}(hc:PT X c tc)(ha:qW X a t)(hb:qW X b u):PS X (.If c a b pos) (Lf tc t u):=by
 intro pins s σ H D I h;refine wpAny_If (bF (hc pins s σ H _ I h) fun d s1 ⟨H1,I1,q1⟩=> ?_);cases d with
 | true=>exact ha pins s1 σ H1 D I1 q1
 | false=>exact hb pins s1 σ H1 D I1 q1
def Lg:TS:=fun _ _ _=>False
end
abbrev TG:=V ->St ->Hp ->(St ->Hp ->Prop) ->Prop
abbrev uO:=List V ->St ->Hp ->(St ->Hp ->Prop) ->Prop
def PG(X:Cx)(target:Expr)(t:TG):Prop:=
 ∀(pins:bw) (s:Shared) (σ:St) (H:Hp) (v:V) (u:Value) (Q:St ->Hp ->Prop),Inv X pins σ H s ->RelV v u ->t v σ H Q ->
  wpAny (model X.prog X.w) X.A (assign target X.env u) (fun _ s' =>∃σ' H',Inv X pins σ' H' s' /\Q σ' H') X.xe s
def wW(X:Cx)(ts:List Expr)(t:uO):Prop:=
 ∀(pins:bw) (s:Shared) (σ:St) (H:Hp) (vs:List V) (us:List Value) (Q:St ->Hp ->Prop),Inv X pins σ H s ->Vals vs us ->t vs σ H Q ->
  wpAny (model X.prog X.w) X.A (assignInOrder ((assignEach ts X.env).map (·.2)) us) (fun _ s' =>∃σ' H',Inv X pins σ' H' s' /\Q σ' H') X.xe s
abbrev uP:=V ->V ->V ->Hp ->(Hp ->Prop) ->Prop
def Cw(X:Cx)(t:uP):Prop:=
 ∀(pins:bw) (s:Shared) (σ:St) (H:Hp) (o i v:V) (ov iv u:Value) (Q:Hp ->Prop),Inv X pins σ H s ->RelV o ov ->RelV i iv ->RelV v u ->t o i v H Q ->
  wpAny (model X.prog X.w) X.A (setItem ov iv u) (fun _ s' =>∃H',Inv X pins σ H' s' /\Q H') X.xe s
abbrev Ih:=V ->V ->Hp ->VK ->Prop
def PIp(X:Cx)(op:Operator)(t:Ih):Prop:=
 ∀(pins:bw) (s:Shared) (σ:St) (H:Hp) (x y:V) (v u:Value) (Q:VK),Inv X pins σ H s ->RelV x v ->RelV y u ->t x y H Q ->
  wpAny (model X.prog X.w) X.A (inplaceOp op v u) (EP X pins σ Q) X.xe s
section
variable{X:Cx}{pos:Pos}
def vL(i:Nat):TG:=fun v σ H Q=>Q (σ.set i (some v)) H
theorem z0m{i:Nat}{x:Str}(hN:X.N.Nodup)(hi:X.N[i]?=some x)(hx:Loc X.env.scope x)(hf:X.fn x=true\/X.env.scope.names.lookup x=some .local:=by first | exact .inl rfl | exact .inr rfl | assumption):PG X (.Name x pos) (vL i):=by
 intro pins s σ H v u Q I r h;exact wpAny_assign_Name (Ie I hN hi hx r (fun s' I' =>⟨_,H,I',h⟩) hf)
def Lh:uO:=fun vs σ H Q=>vs= []/\Q σ H
def Cy(t:TG)(u:uO):uO:=fun vs σ H Q=>∃v r,vs=v::r/\t v σ H fun σ' H' =>u r σ' H' Q
theorem z2b:wW X [] Lh:=by
 intro pins s σ H vs us Q I r h;obtain⟨e,h⟩:=h;subst e;cases r;exact assignInOrder_nil ⟨σ,H,I,h⟩
theorem zxd{e:Expr}{es:List Expr}{t:TG}{u:uO}(h1:PG X e t)(h2:wW X es u)
  (hs:(assignEach (e::es) X.env).map (·.2)=assign e X.env::(assignEach es X.env).map (·.2):=by rfl):wW X (e::es) (Cy t u):=by
 intro pins s σ H vs us Q I r h;obtain⟨v,vr,e1,h⟩:=h;subst e1;cases r with
 | cons r rr=>
  rw[hs];refine assignInOrder_cons (bF (h1 pins s σ H _ _ _ I r h) fun _ s1 ⟨σ1,H1,I1,q1⟩=> ?_);exact h2 pins s1 σ1 H1 _ _ Q I1 rr q1
def Li(K:W.Frag)(n:Nat)(t:uO):TG:=fun v σ H Q=>∃a xs,v= .ref a/\iK K H a xs/\xs.length=n/\t xs σ H Q
theorem z4h{es:List Expr}{k:Nat}{t:uO}{n:Nat}(hc:X.calm=true)(h:wW X es t)
  (hn:(assignEach es X.env).length=n:=by rfl) (hst:(assignEach es X.env).findIdx? (·.1)=none:=by rfl):PG X (.Tuple es k pos) (Li X.K n t):=by
 intro pins s σ H v u Q I r hw;obtain⟨a,xs,e1,hq,hl,hw⟩:=hw;subst e1;cases r;obtain⟨its,rv,ht,hz⟩:=I.tuple hq;refine assign_Tuple_tuple (I.ok.hd hc) ht (by simp [hn,<- hl,rv.length]) hst fun h' hx=> ?_
 have I1:Inv X pins σ H {s with heap:=h'}:=I.kept (t' :=s.toks) fun b o e=>hx b o (zJ (zG e)) e;exact h pins _ σ H xs _ Q I1 (by simpa using rv) hw
def nu(to ti:TE)(t:uP):TG:=fun v σ H Q=>to σ H fun o H1=>ti σ H1 fun i H2=>t o i v H2 fun H3=>Q σ H3
theorem z2u{o i:Expr}{to ti:TE}{t:uP}(ho:PE X o to)(hi:PE X i ti)(hs:Cw X t)
  (ha:∀v,assign (.Subscript o i pos) X.env v=(do
   let ov<- holding [v] (eval o X.env)
   let iv<- holding [v,ov] (eval i X.env)
   standAt pos
   holding [v,ov,iv] (setItem ov iv v)
   release [v,ov,iv] []):=by intro _;rfl):PG X (.Subscript o i pos) (nu to ti t):=by
 intro pins s σ H v u Q I r h;rw[ha];refine z6 (wpAny_holding (bF (ho pins s σ H _ I h) fun ov s1 rE=> ?_));obtain⟨x,H1,I1,r1,q1⟩:=rE;refine z6 (wpAny_holding (bF (hi pins s1 σ H1 _ I1 q1) fun iv s2 rF=> ?_));obtain⟨y,H2,I2,r2,q2⟩:=rF;refine z6 (wpAny_standAt (z6 (wpAny_holding (bF (hs pins s2 σ H2 x y v ov iv u _ I2 r1 r2 r q2) fun _ s3 ⟨H3,I3,q3⟩=> ?_))));exact wpAny_release ⟨σ,H3,I3,q3⟩
def Cz(te:TE)(g:TG):TS:=fun D σ H=>te σ H fun x H1=>g x σ H1 D.nx
theorem U8{tg e:Expr}{te:TE}{g:TG}(he:PE X e te)(hg:PG X tg g)(hs:swapsWithSole [tg] e pos.line X.env=pure false:=by rfl)(hw:swappedStores [tg] e X.env=pure none:=by rfl)
  (h1:(assignEach [tg] X.env).map (·.2)= [assign tg X.env]:=by rfl):PS X (.Assign [tg] e pos) (Cz te g):=by
 intro pins s σ H D I h;refine wpAny_Assign_stores (bF (he pins s σ H _ I h) fun v s1 ⟨x,H1,I1,r1,q1⟩=> ?_) hs hw;rw[h1];exact bF (hg pins s1 σ H1 x v _ I1 r1 q1) fun _ s2 q=>q
theorem Lj{i:Nat}{x:Str}{e:Expr}{te:TE}{pos' :Pos}(hN:X.N.Nodup)(hi:X.N[i]?=some x)(hx:Loc X.env.scope x)(he:PE X e te)(hs:swapsWith e (some (.Name x pos')) pos.line X.env=pure false:=by rfl)(hf:X.fn x=true\/X.env.scope.names.lookup x=some .local:=by first | exact .inl rfl | exact .inr rfl | assumption):
  PS X (.Assign [.Name x pos'] e pos) (Cz te (vL i)):=by
 intro pins s σ H D I h;refine wpAny_Assign_Name (bF (he pins s σ H _ I h) fun v s1 ⟨y,H1,I1,r1,q1⟩=> ?_) hs;exact Ie I1 hN hi hx r1 (fun s2 I2=>⟨_,H1,I2,q1⟩) hf
def Lk(i j:Nat)(ta:TA):TS:=fun D σ H=>ta σ H fun vs H1=>∃v w,vs= [v,w]/\D.nx ((σ.set i (some v)).set j (some w)) H1
theorem z2h{i j:Nat}{x y:Str}{a b:Expr}{ta:TA}{px py pt:Pos}{kt k2 wX}(hc:X.calm=true)(hN:X.N.Nodup)(hi:X.N[i]?=some x)(hj:X.N[j]?=some y)(hij:i≠j)
  (hx:X.env.scope.names.lookup x=some .local) (hy:X.env.scope.names.lookup y=some .local) (ha:PA X [a,b] ta)
  (hw:swappedStores [.Tuple [.Name x px,.Name y py] kt pt] (.Tuple [a,b] k2 wX) X.env=pure (some [x,y]))
  (hs:swapsWithSole [.Tuple [.Name x px,.Name y py] kt pt] (.Tuple [a,b] k2 wX) pos.line X.env=pure false:=by rfl):
  PS X (.Assign [.Tuple [.Name x px,.Name y py] kt pt] (.Tuple [a,b] k2 wX) pos) (Lk i j ta):=by
 intro pins s σ H D I h;rw[exec_Assign_arm];refine z6 (wpAny_standAt ?_);rw[hs];refine z6 (z7 ?_);rw[if_neg (by decide)]
 refine z6 (Tuple_ (bF (ha _ pins s σ H _ I h) fun us s1 Ln=> ?_));obtain⟨vs,H1,I1,r1,q1⟩:=Ln;obtain⟨v,w,e1,q1⟩:=q1;subst e1;obtain⟨u1,u2,rfl,rv,lW⟩:∃u1 u2,us= [u1,u2]/\RelV v u1/\RelV w u2:=by
  cases r1 with
  | cons p q=>
   cases q with
   | cons p' q' =>
    cases q';exact⟨_,_,rfl,p,p'⟩
 refine wpAny_newObj_type ?_ (by show 2<=sizeLine;decide)
 have I2:Inv X pins σ H1 {s1 with heap:=s1.heap.push {cls:= .type "tuple",data:= .seq [u1,u2].toArray}}:=I1.kept (t' :=s1.toks) fun b o e=>zZ _ e;rw[hw];refine z6 (z7 ?_);show wpAny (model X.prog X.w) X.A (do rule "assign.swapped-stores";let items<- unpackItems (.ref s1.heap.objs.size) 2 none;assignInOrder [fun v=>bindName X.env y v,fun v=>bindName X.env x v] items.reverse;pure Flow.next) _ _ _;refine z6 (wpAny_rule (z6 (unpackItems_tuple (items:= #[u1,u2]) (I.ok.hd hc) (IsTup.new s1.heap _) fun h' hx' => ?_)));have I3:=I2.kept (h' :=h') (t' :=s1.toks) fun b o e=>hx' b o (zJ (zG e)) e;show wpAny _ _ (assignInOrder [fun v=>bindName X.env y v,fun v=>bindName X.env x v] [u2,u1]>>=fun _=>pure Flow.next) _ _ _;refine z6 (assignInOrder_cons (wpAny_bindName (Ie I3 hN hj (.inl hy) lW (fun s2 I4=> ?_) (.inr hy))));refine assignInOrder_cons (wpAny_bindName (Ie I4 hN hi (.inl hx) rv (fun s3 I5=>assignInOrder_nil (z7 ?_)) (.inr hx)));rw[List.set_comm _ _ (Ne.symm hij)] at I5;exact⟨_,H1,I5,q1⟩
def aaj(i:Nat)(te:TE)(ti:Ih):TS:=fun D σ H=>∃x,σ[i]?=some (some x)/\te σ H fun y H1=>ti x y H1 fun z H2=>D.nx (σ.set i (some z)) H2
def U9(to ti te:TE)(Lq:V ->V ->Hp ->VK ->Prop)(tip:Ih)(Lr:uP):TS:=fun D σ H=>to σ H fun o H1=>ti σ H1 fun i H2=>Lq o i H2 fun x H3=>te σ H3 fun y H4=>tip x y H4 fun z H5=>Lr o i z H5 fun H6=>D.nx σ H6
def aak(X:Cx)(t:V ->V ->Hp ->VK ->Prop):Prop:=
 ∀(pins:bw) (s:Shared) (σ:St) (H:Hp) (o i:V) (ov iv:Value) (Q:VK),Inv X pins σ H s ->RelV o ov ->RelV i iv ->t o i H Q ->
  wpAny (model X.prog X.w) X.A (getItem ov iv) (EP X pins σ Q) X.xe s
def ipI(f:Int ->Int ->Int):Ih:=fun x y H Q=>∃i j,x= .int i/\y= .int j/\Q (.int (f i j)) H
end
section
variable{X:Cx}{pos:Pos}
def wY(c:TT)(tb:TS):TS:=fun D σ H=>∃W:Nat ->St ->Hp ->Prop,(∃m,W m σ H)/\∀m σ H,W m σ H ->
 c σ H fun b H1=>if b=true then∃N:St ->Hp ->Prop,(∀σ' H',N σ' H' ->∃m',m' <m/\W m' σ' H')/\tb {D with nx:=N,ct:=N,bk:=D.nx} σ H1 else D.nx σ H1
theorem zv4{c:Expr}{body:List Stmt}{tc:TT}{tb:TS}(hp:PassesOwn (model X.prog X.w) X.A X.env X.xe)(hc:PT X c tc)(hb:qW X body tb):PS X (.While c body [] pos) (wY tc tb):=by
 intro pins s σ H D I h;obtain⟨W,⟨m0,w0⟩,turn⟩:=h;refine wpAny_While (codeAny_whileLoop (fun n s' =>∃σ' H',Inv X pins σ' H' s' /\W n σ' H') ?_ m0 ⟨σ,H,I,w0⟩);rintro n s1 ⟨σ1,H1,I1,w1⟩;refine wpAny_passesOwn hp (bF (hc pins s1 σ1 H1 _ I1 (turn n σ1 H1 w1)) fun b s2 ⟨H2,I2,q2⟩=> ?_);cases b with
 | true=>
  obtain⟨N,hN,q2⟩:=q2;rw[if_pos rfl];refine wpAny_passesOwn hp (bF (hb pins s2 σ1 H2 _ I2 q2) fun f s3 q3=> ?_);cases f with
  | next=>
   obtain⟨σ3,H3,I3,n3⟩:=q3;obtain⟨m',hm,w3⟩:=hN σ3 H3 n3;exact⟨m',hm,σ3,H3,I3,w3⟩
  | cont=>
   obtain⟨σ3,H3,I3,n3⟩:=q3;obtain⟨m',hm,w3⟩:=hN σ3 H3 n3;exact⟨m',hm,σ3,H3,I3,w3⟩
  | brk=>exact q3
  | ret v=>exact q3
 | false=>
  rw[if_neg Bool.false_ne_true];exact wpAny_execs_nil ⟨σ1,H2,I2,q2⟩
end
structure It where
 go:Nat ->Hp ->Prop
 yld:Nat ->Hp ->V ->Hp ->Prop
 stop:Nat ->Hp ->Prop
def gj(X:Cx)(pins:bw)(H:Hp)(b:Addr):Prop:=
 H b=none/\b≠X.env.locals/\b∉X.fs/\ (b∈X.ex\/X.s₀.heap.objs.size<=b)/\ (∀x c,X.env.cells.lookup x=some c ->c≠b)/\∀p∈X.pn++pins,p.1≠b
theorem Inv.fpOk{X:Cx}{pins:bw}{σ:St}{H H' :Hp}{s:Shared}{b:Addr}(I:Inv X pins σ H s)(hb:s.heap.objs.size<=b)(hn:H' b=none):gj X pins H' b:=by
 refine⟨hn,Nat.ne_of_gt (zL I.lt hb),I.nofs hb,.inr (zN I.sz hb),fun x c e z=> ?_,fun p hp z=> ?_⟩
 ·obtain⟨v,q⟩:=I.cell x c e;exact absurd (zL q.lt (by rw[z];exact hb)) (yV _)
 ·exact absurd (zL (zG (I.pin p hp).1) (by rw[z];exact hb)) (yV _)
structure Turn (P:Program) (w:World) (K:W.Frag) (tg:Expr) (J:It) (fp:List Addr) (it:Addr) (tn:Nat ->Heap ->Prop):Prop where
 mem:it∈fp
 obj:∀i h,tn i h ->∀b∈fp,∃o,h.get? b=some o/\∀v,o.data≠ .cell v
 keep:∀i h h',tn i h ->(∀b∈fp,∀o,h.get? b=some o ->h'.get? b=some o) ->tn i h'
 item:∀(X:Cx),X.prog=P ->X.w=w ->X.K=K ->X.calm=true ->∀(i:Nat) (pins:bw) (s:Shared) (σ:St) (H:Hp) (E:bG),Inv X pins σ H s ->(∀b∈fp,gj X pins H b) ->tn i s.heap ->J.go i H ->
  wpAny (model P w) X.A (pyNext (.ref it)) (fun r s1=>∃u,r=some u/\
   wpAny (model P w) X.A (letOwnedTupleGo tg (.ref it) u) (fun _ s2=>∃x H',Inv X pins σ H' s2/\RelV x u/\J.yld i H x H' /\tn (i+1) s2.heap/\∀b∈fp,H' b=none) E s1) E s
 done:∀(X:Cx),X.prog=P ->X.w=w ->X.K=K ->X.calm=true ->∀(i:Nat) (pins:bw) (s:Shared) (σ:St) (H:Hp) (E:bG),Inv X pins σ H s ->(∀b∈fp,gj X pins H b) ->tn i s.heap ->J.stop i H ->
  wpAny (model P w) X.A (pyNext (.ref it)) (fun r s1=>r=none/\Inv X pins σ H s1) E s
 self:∀(A:Around) (i:Nat) (s:Shared) (Q:bG) (E:bG),tn i s.heap ->Q (.ref it) s ->wpAny (model P w) A (pyIter (.ref it)) Q E s
abbrev TI:=St ->Hp ->(It ->Hp ->Prop) ->Prop
def PIE(X:Cx)(pins:bw)(σ:St)(tg:Expr)(R:It ->Hp ->Prop)(itv:Value)(s2:Shared):Prop:=
 ∃(it:Addr) (fp:List Addr) (tn:Nat ->Heap ->Prop) (J:It) (H' :Hp),itv= .ref it/\Inv X pins σ H' s2/\Turn X.prog X.w X.K tg J fp it tn/\tn 0 s2.heap/\ (∀b∈fp,gj X pins H' b)/\R J H'
def PI(X:Cx)(tg iter:Expr)(wi:TI):Prop:=
 ∀(pins:bw) (s:Shared) (σ:St) (H:Hp) (R:It ->Hp ->Prop),Inv X pins σ H s ->wi σ H R ->
  wpAny (model X.prog X.w) X.A (eval iter X.env) (fun v s1=>wpAny (model X.prog X.w) X.A (pyIter v) (PIE X pins σ tg R) X.xe s1) X.xe s
theorem Ii{M:Model}{A:Around}{E:bG}{s:Shared}{tg:Expr}{it:Addr}{u:Value}{o:Obj}{n:String}{vs:Array Value}{Q:Unit ->Shared ->Prop}(ho:s.heap.get? it=some o)(hc:o.cls= .type n)(hd:o.data= .fields vs)
  (hn: ["enumerate","zip","dict_itemiterator","dict_reverseitemiterator","odict_iterator","itertools.zip_longest","itertools.pairwise"].contains n=false) (hQ:Q () s):wpAny M A (letOwnedTupleGo tg (.ref it) u) Q E s:=by
 unfold letOwnedTupleGo;cases tg<;>first
  | exact z7 hQ
  | (
    cases u<;>first
    | exact z7 hQ
    | (
      refine z6 (wpAny_load ho ?_);rw[hc,hd];show wpAny M A (if (["enumerate","zip","dict_itemiterator","dict_reverseitemiterator","odict_iterator","itertools.zip_longest","itertools.pairwise"].contains n&&vs[0]?==some (rawInt _))=true then _ else _) Q E s;rw[if_neg (by intro h;rw[hn,Bool.false_and] at h;cases h)]
      exact z7 hQ))
def wZ(K:W.Frag)(a:Addr):It:=
 ⟨fun i H=>∃xs x,fO K H a xs/\xs[i]?=some x,fun i H x H' =>H' =H/\∀xs,fO K H a xs ->xs[i]?=some x,fun i H=>∃xs,fO K H a xs/\xs.length<=i⟩
def vM(K:W.Frag)(a:Addr):It:=
 ⟨fun i H=>∃xs x,iK K H a xs/\xs[i]?=some x,fun i H x H' =>H' =H/\∀xs,iK K H a xs ->xs[i]?=some x,fun i H=>∃xs,iK K H a xs/\xs.length<=i⟩
def uh(lo:Int)(n:Nat):It:=⟨fun i _=>i<n,fun i H x H' =>H' =H/\x= .int (lo+i),fun i _=>n<=i⟩
theorem Va{P:Program}{w:World}{K:W.Frag}{tg:Expr}(a it:Addr):Turn P w K tg (wZ K a) [it] it (fun i h=>h.IsListIter it a i) where
 mem:=by simp
 obj:=fun i h st b hb=>by
  have e:b=it:=by simpa using hb
  subst e;obtain⟨o,e,c,d⟩:=st;exact⟨o,e,fun v z=>by rw[d] at z;cases z⟩
 keep:=fun i h h' st k=>st.at fun o e=>k it (by simp) o e
 item:=by
  intro X hP hw hK hc i pins s σ H E I hf st hg;subst hP hw hK;obtain⟨xs,x,hq,hx⟩:=hg;obtain⟨its,rv,p,hz⟩:=I.list hq;obtain⟨u,hu,ru⟩:=rv.get hx;obtain⟨f0,f1,f2,f3,f4,f5⟩:=hf it (by simp)
  refine wpAny_pyNext_list_item st p.isList (x:=u) (by simpa using hu) fun h' st' sb=> ?_
  have I1:Inv X pins σ H {s with heap:=h'}:=I.turned (t' :=s.toks) (fun b o hb e=>(sb.2 b hb).trans e) f0 f1 f3 f4 f5;obtain⟨o,e,c,d⟩:=id st';exact⟨u,rfl,Ii (s:={s with heap:=h'}) e c d (by decide) ⟨x,H,I1,ru,⟨rfl,fun ys hy=>by rw[I.list_inj hy hq];exact hx⟩,st',fun b hb=>(hf b hb).1⟩⟩
 done:=by
  intro X hP hw hK hc i pins s σ H E I hf st hg;subst hP hw hK;obtain⟨xs,hq,hx⟩:=hg;obtain⟨its,rv,p,hz⟩:=I.list hq;obtain⟨f0,f1,f2,f3,f4,f5⟩:=hf it (by simp)
  have hl:=rv.length;exact wpAny_pyNext_list_end (I.ok.hd hc) st p.isList (by simp;omega) fun h' eb=>⟨rfl,I.turned (t' :=s.toks) (fun b o hb e=>eb b o hb e) f0 f1 f3 f4 f5⟩
 self:=fun _ _ _ _ _ st h=>wpAny_pyIter_listiter st h
theorem Vb{P:Program}{w:World}{K:W.Frag}{tg:Expr}(a it:Addr):Turn P w K tg (vM K a) [it] it (fun i h=>h.IsTupleIter it a i) where
 mem:=by simp
 obj:=fun i h st b hb=>by
  have e:b=it:=by simpa using hb
  subst e;obtain⟨o,e,c,d⟩:=st;exact⟨o,e,fun v z=>by rw[d] at z;cases z⟩
 keep:=fun i h h' st k=>st.at fun o e=>k it (by simp) o e
 item:=by
  intro X hP hw hK hc i pins s σ H E I hf st hg;subst hP hw hK;obtain⟨xs,x,hq,hx⟩:=hg;obtain⟨its,rv,p,hz⟩:=I.tuple hq;obtain⟨u,hu,ru⟩:=rv.get hx;obtain⟨f0,f1,f2,f3,f4,f5⟩:=hf it (by simp)
  refine wpAny_pyNext_tuple_item st (show s.heap.IsTuple a its.toArray from p) (x:=u) (by simpa using hu) fun h' st' sb=> ?_
  have I1:Inv X pins σ H {s with heap:=h'}:=I.turned (t' :=s.toks) (fun b o hb e=>(sb.2 b hb).trans e) f0 f1 f3 f4 f5;obtain⟨o,e,c,d⟩:=id st';exact⟨u,rfl,Ii (s:={s with heap:=h'}) e c d (by decide) ⟨x,H,I1,ru,⟨rfl,fun ys hy=>by rw[I.tuple_inj hy hq];exact hx⟩,st',fun b hb=>(hf b hb).1⟩⟩
 done:=by
  intro X hP hw hK hc i pins s σ H E I hf st hg;subst hP hw hK;obtain⟨xs,hq,hx⟩:=hg;obtain⟨its,rv,p,hz⟩:=I.tuple hq;obtain⟨f0,f1,f2,f3,f4,f5⟩:=hf it (by simp)
  have hl:=rv.length;exact wpAny_pyNext_tuple_end (I.ok.hd hc) st (show s.heap.IsTuple a its.toArray from p) (by simp;omega) fun h' eb=>⟨rfl,I.turned (t' :=s.toks) (fun b o hb e=>eb b o hb e) f0 f1 f3 f4 f5⟩
 self:=fun _ _ _ _ _ st h=>wpAny_pyIter_tupleiter st h
theorem zrf{P:Program}{w:World}{K:W.Frag}{tg:Expr}(it:Addr)(lo:Int)(n:Nat):Turn P w K tg (uh lo n) [it] it (fun i h=>IsRangeIter h it (lo+ (i:Nat)*1) ((n:Int) - (i:Nat)) 1) where
 mem:=by simp
 obj:=fun i h st b hb=>by
  have e:b=it:=by simpa using hb
  subst e;exact⟨_,st,fun v z=>by
   have z' :Data.fields _=Data.cell v:=z;cases z'⟩
 keep:=fun i h h' st k=>k it (by simp) _ st
 item:=by
  intro X hP hw hK hc i pins s σ H E I hf st hg;subst hP hw hK;obtain⟨f0,f1,f2,f3,f4,f5⟩:=hf it (by simp)
  have W:=Walks.range (prog:=X.prog) (w:=X.w) (I.ok.hd hc) it lo 1 n;refine W.item i s _ _ hg st fun v h' tk hv st' kk=> ?_;obtain⟨t,rfl⟩:=hv;have I1:Inv X pins σ H {s with heap:=h',toks:=tk}:=I.turned (fun b o hb e=>kk b o (by simpa using hb) e) f0 f1 f3 f4 f5
  refine⟨_,rfl,Ii (s:={s with heap:=h',toks:=tk}) (n:= "range_iterator") st' rfl rfl (by decide) ⟨.int (lo+i),H,I1,⟨t,?_⟩,⟨rfl,rfl⟩,st',fun b hb=>(hf b hb).1⟩⟩
  rw[Int.mul_one]
 done:=by
  intro X hP hw hK hc i pins s σ H E I hf st hg;subst hP hw hK;obtain⟨f0,f1,f2,f3,f4,f5⟩:=hf it (by simp)
  exact wpAny_pyNext_range_end (I.ok.hd hc) st (by have:n<=i:=hg;omega) fun h' eb=>⟨rfl,I.turned (t' :=s.toks) (fun b o hb e=>eb b o hb e) f0 f1 f3 f4 f5⟩
 self:=fun _ _ _ _ _ st h=>wpAny_pyIter_rangeiter st h
section
variable{X:Cx}{tg:Expr}
def Vc(K:W.Frag)(tl:TE):TI:=fun σ H R=>tl σ H fun x H1=>∃a,x= .ref a/\ (∃xs,fO K H1 a xs)/\R (wZ K a) H1
def aal(K:W.Frag)(tl:TE):TI:=fun σ H R=>tl σ H fun x H1=>∃a,x= .ref a/\ (∃xs,iK K H1 a xs)/\R (vM K a) H1
theorem Vd{pins:bw}{σ:St}{H:Hp}{s:Shared}{R:It ->Hp ->Prop}{E:bG}{lo hi:Int}{t u v:Tok}{tk:Nat}(I:Inv X pins σ H s)(h1: -(2^62)<=lo)(h2:lo<2^62)(h3: -(2^62)<=hi)(h4:hi<2^62)
  (q:R (uh lo (hi - lo).toNat) H):wpAny (model X.prog X.w) X.A (pyIter (.ref s.heap.objs.size)) (PIE X pins σ tg R) E {s with heap:=s.heap.push {cls:= .type "range",data:= .fields #[.int lo t,.int hi u,.int 1 v]},toks:=tk}:=by
 refine wpAny_pyIter_range (IsRange.new ..) (small_one h1 h2 h3 h4) ?_;have I1:Inv X pins σ H {s with heap:=s.heap.push {cls:= .type "range",data:= .fields #[.int lo t,.int hi u,.int 1 v]},toks:=tk}:=I.kept fun b o e=>zZ _ e;refine⟨(s.heap.push {cls:= .type "range",data:= .fields #[.int lo t,.int hi u,.int 1 v]}).objs.size,[(s.heap.push {cls:= .type "range",data:= .fields #[.int lo t,.int hi u,.int 1 v]}).objs.size],_,_,H,rfl,
  I1.kept (t' :=tk) fun b o e=>zZ _ e,zrf _ lo (hi - lo).toNat,?_,fun b hb=> ?_,q⟩
 ·have e1:lo+ ((0:Nat):Int)*1=lo:=by simp
  have e2:(((hi - lo).toNat:Nat):Int) - ((0:Nat):Int)=Builtin.Range.rangeSize lo hi 1:=by rw[rangeSize_one];split<;>omega
  show IsRangeIter _ _ (lo+ ((0:Nat):Int)*1) ((((hi - lo).toNat:Nat):Int) - ((0:Nat):Int)) 1;rw[e1,e2];exact zY _ rfl
 ·have e:b=(s.heap.push {cls:= .type "range",data:= .fields #[.int lo t,.int hi u,.int 1 v]}).objs.size:=by simpa using hb
  subst e;exact I1.fpOk (zM _) (I1.hok.fresh (zM _))
def CG(ta:TA):TI:=fun σ H R=>ta σ H fun vs H1=>∃j:Int,vs= [.int j]/\ -(2^62)<=j/\j<2^62/\R (uh 0 j.toNat) H1
def CJ(ta:TA):TI:=fun σ H R=>ta σ H fun vs H1=>∃i j:Int,vs= [.int i,.int j]/\ (-(2^62)<=i/\i<2^62/\ -(2^62)<=j/\j<2^62)/\R (uh i (j - i).toNat) H1
theorem zs3{a:Expr}{ta:TA}{p pos:Pos}(hg:Gl X "range")(hm:X.mg "range" =none)(ha:PA X [a] ta)(hs:starEach [a] X.env= [(false,eval a X.env)]:=by rfl):PI X tg (.Call (.Name "range" p) [a] [] pos) (CG ta):=by
 intro pins s σ H R I h;refine Call_ (vK I hg hm boot_range (PyProof.Rows.callWith_type1 (bF (ha pos pins s σ H _ I h) fun us s1 ⟨vs,H1,I1,r1,q1⟩=> ?_) hs rfl));obtain⟨j,e,q1,q2,q⟩:=q1;subst e;cases r1 with
 | cons r rr=>
  cases rr;obtain⟨t,rfl⟩:=r;exact call_range_1 (Vd I1 (by omega) (by omega) q1 q2 (by simpa using q))
theorem zu8{a b:Expr}{ta:TA}{p pos:Pos}(hg:Gl X "range")(hm:X.mg "range" =none)(ha:PA X [a,b] ta)(hs:starEach [a,b] X.env= [(false,eval a X.env),(false,eval b X.env)]:=by rfl)(hs2:starEach [b] X.env= [(false,eval b X.env)]:=by rfl):
  PI X tg (.Call (.Name "range" p) [a,b] [] pos) (CJ ta):=by
 intro pins s σ H R I h;refine Call_ (vK I hg hm boot_range (PyProof.Rows.callWith_type1 (bF (ha pos pins s σ H _ I h) fun us s1 ⟨vs,H1,I1,r1,q1⟩=> ?_) (by rw[hs,hs2]) (by rw[hs2];rfl)))
 obtain⟨i,j,e,⟨q1,q2,q3,q4⟩,q⟩:=q1;subst e;cases r1 with
 | cons r rr=>
  cases rr with
  | cons r' rr=>
   cases rr;obtain⟨t,rfl⟩:=r;obtain⟨t',rfl⟩:=r';exact call_range_2 (Vd I1 q1 q2 q3 q4 q)
def Ls(wi:TI)(g:TG)(tb:TS):TS:=fun D σ H=>wi σ H fun J H1=>∃W:Nat ->Nat ->St ->Hp ->Prop,(∃m,W 0 m σ H1)/\∀i m σ H,W i m σ H ->
 (J.stop i H/\D.nx σ H)\/ (J.go i H/\∃N:St ->Hp ->Prop,(∀σ' H',N σ' H' ->∃m',m' <m/\W (i+1) m' σ' H')/\∀x H',J.yld i H x H' ->g x σ H' fun σ2 H2=>tb {D with nx:=N,ct:=N,bk:=D.nx} σ2 H2)
def jT(fp:List Addr)(h:Heap):bw:=fp.filterMap fun b=>(h.get? b).map fun o=>(b,o)
theorem Ij{fp:List Addr}{h:Heap}{b:Addr}{o:Obj}(hb:b∈fp)(e:h.get? b=some o):(b,o)∈jT fp h:=List.mem_filterMap.mpr ⟨b,hb,by rw[e];rfl⟩
theorem zuv{fp:List Addr}{h:Heap}{p:Addr×Obj}(hp:p∈jT fp h):p.1∈fp/\h.get? p.1=some p.2:=by
 obtain⟨b,hb,e⟩:=List.mem_filterMap.mp hp;cases q:h.get? b with
 | none=>rw[q] at e;cases e
 | some o=>
  rw[q] at e;have e' :(b,o)=p:=zF e;subst e';exact⟨hb,q⟩
theorem Inv.pinned{pins:bw}{σ:St}{H:Hp}{s:Shared}{fp:List Addr}(I:Inv X pins σ H s)(hf:∀b∈fp,gj X pins H b)(ho:∀b∈fp,∃o,s.heap.get? b=some o/\∀v,o.data≠ .cell v):Inv X (pins++jT fp s.heap) σ H s:=
 I.pins_of fun p hp=>(zR.mp hp).elim (fun z=>I.pin p (zP _ z)) fun z=>by
  obtain⟨hb,e⟩:=zuv z;obtain⟨f0,f1,f2,_⟩:=hf p.1 hb;obtain⟨o,e',d⟩:=ho p.1 hb;rw[e] at e';cases e';exact⟨e,f0,f1,f2,d⟩
theorem Inv.unpinned{pins pl:bw}{σ:St}{H:Hp}{s:Shared}(I:Inv X (pins++pl) σ H s):Inv X pins σ H s:=I.pins_of fun p hp=>I.pin p (zP _ (zO _ hp))
theorem Ik{iter:Expr}{body:List Stmt}{wi:TI}{g:TG}{tb:TS}{pos:Pos}(hp:PassesOwn (model X.prog X.w) X.A X.env X.xe)(hc:X.calm=true)(hi:PI X tg iter wi)(hg:PG X tg g)(hb:qW X body tb)
  (hs:∀x,foldedSetIterable iter X.env x=pure x:=by intro _;rfl):PS X (.For tg iter body [] pos) (Ls wi g tb):=by
 intro pins s σ H D I h;refine wpAny_For (bF (hi pins s σ H _ I h) fun v s1 h1=>bF h1 fun itv s2 h2=> ?_) hs;obtain⟨it,fp,tn,J,H2,e,I2,T,st2,f2,W,⟨m0,w0⟩,turn⟩:=h2;subst e
 
 have stat:∀{H' :Hp},(∀b∈fp,H' b=none) ->∀b∈fp,gj X pins H' b:=fun hn b hb=>⟨hn b hb,(f2 b hb).2⟩;refine codeAny_forLoop_any (fun n s' =>∃i σ' H',Inv X pins σ' H' s' /\tn i s'.heap/\ (∀b∈fp,H' b=none)/\W i n σ' H') ?_ m0 ⟨0,σ,H2,I2,st2,fun b hb=>(f2 b hb).1,w0⟩;rintro n s3 ⟨i,σ3,H3,I3,st3,Ve,w3⟩;rcases turn i n σ3 H3 w3 with ⟨stop,qn⟩ | ⟨go,N,hN,step⟩
 ·refine wpAny_passesOwn hp (bF (T.done X rfl rfl rfl hc i pins s3 σ3 H3 X.xe I3 (stat Ve) st3 stop) fun r s4 ⟨hr,I4⟩=> ?_);subst hr;exact wpAny_execs_nil ⟨σ3,H3,I4,qn⟩
 ·refine wpAny_passesOwn hp (bF (T.item X rfl rfl rfl hc i pins s3 σ3 H3 X.xe I3 (stat Ve) st3 go) fun r s4 ⟨u,hr,h4⟩=> ?_);subst hr;refine wpAny_passesOwn hp (bF h4 fun _ s5 Lx=> ?_);obtain⟨x,H5,I5,r5,y5,Aa,Il⟩:=Lx;have Ly :=I5.pinned (stat Il) (T.obj _ _ Aa);refine wpAny_passesOwn hp (bF (hg _ s5 σ3 H5 x u _ Ly r5 (step x H5 y5)) fun _ s6 ⟨σ6,H6,I6,q6⟩=> ?_);refine wpAny_passesOwn hp (bF (hb _ s6 σ6 H6 _ I6 q6) fun f s7 q7=> ?_);have again:∀{σ7:St} {H7:Hp},Inv X (pins++jT fp s5.heap) σ7 H7 s7 ->N σ7 H7 ->∃m,m<n/\∃i σ' H',Inv X pins σ' H' s7/\tn i s7.heap/\ (∀b∈fp,H' b=none)/\W i m σ' H' :=fun{σ7 H7} I7 n7=>by
   obtain⟨m',hm,w7⟩:=hN σ7 H7 n7;refine⟨m',hm,i+1,σ7,H7,I7.unpinned,T.keep _ _ _ Aa fun b hb o e=>(I7.pin (b,o) (zP _ (zP _ (Ij hb e)))).1,fun b hb=> ?_,w7⟩;obtain⟨o,e,d⟩:=T.obj _ _ Aa b hb;exact(I7.pin (b,o) (zP _ (zP _ (Ij hb e)))).2.1
  cases f with
  | next=>obtain⟨σ7,H7,I7,n7⟩:=q7;exact again I7 n7
  | cont=>obtain⟨σ7,H7,I7,n7⟩:=q7;exact again I7 n7
  | brk=>obtain⟨σ7,H7,I7,q7⟩:=q7;exact⟨σ7,H7,I7.unpinned,q7⟩
  | ret v=>obtain⟨x7,σ7,H7,I7,r7,q7⟩:=q7;exact⟨x7,σ7,H7,I7.unpinned,r7,q7⟩
end
theorem zwd{K:W.Frag}{a:Addr}{xs:List V}{g:TG}{tb:TS}{D:Ends}{σ:St}{H:Hp}(Pv:Nat ->St ->Hp ->Prop)(h0:Pv 0 σ H)(hl:∀i σ H,i<=xs.length ->Pv i σ H ->fO K H a xs)
  (hs:∀i x σ H,xs[i]?=some x ->Pv i σ H ->g x σ H fun σ2 H2=>tb {D with nx:=Pv (i+1),ct:=Pv (i+1),bk:=D.nx} σ2 H2) (hd:∀σ H,Pv xs.length σ H ->D.nx σ H):
  ∃W:Nat ->Nat ->St ->Hp ->Prop,(∃m,W 0 m σ H)/\∀i m σ H,W i m σ H ->
   ((wZ K a).stop i H/\D.nx σ H)\/ ((wZ K a).go i H/\∃N:St ->Hp ->Prop,(∀σ' H',N σ' H' ->∃m',m' <m/\W (i+1) m' σ' H')/\∀x H',(wZ K a).yld i H x H' ->g x σ H' fun σ2 H2=>tb {D with nx:=N,ct:=N,bk:=D.nx} σ2 H2):=by
 refine⟨fun i m σ H=>m=xs.length - i/\i<=xs.length/\Pv i σ H,⟨xs.length,by simp,Nat.zero_le _,h0⟩,?_⟩
 rintro i m σ H ⟨rfl,hi,p⟩;have q:=hl i σ H hi p;by_cases hlt:i<xs.length
 ·refine .inr ⟨⟨xs,xs[i],q,by simp [hlt]⟩,Pv (i+1),fun σ' H' p' =>⟨xs.length - (i+1),by omega,rfl,hlt,p'⟩,fun x H' y=> ?_⟩
  obtain⟨e,y⟩:=y;subst e;exact hs i x σ _ (y xs q) p
 ·have e:i=xs.length:=by omega
  subst e;exact .inl ⟨⟨xs,q,zM _⟩,hd σ H p⟩
theorem zzs{K:W.Frag}{a:Addr}{xs:List V}{g:TG}{tb:TS}{D:Ends}{σ:St}{H:Hp}(Pv:Nat ->St ->Hp ->Prop)(h0:Pv 0 σ H)(hl:∀i σ H,i<=xs.length ->Pv i σ H ->iK K H a xs)
  (hs:∀i x σ H,xs[i]?=some x ->Pv i σ H ->g x σ H fun σ2 H2=>tb {D with nx:=Pv (i+1),ct:=Pv (i+1),bk:=D.nx} σ2 H2) (hd:∀σ H,Pv xs.length σ H ->D.nx σ H):
  ∃W:Nat ->Nat ->St ->Hp ->Prop,(∃m,W 0 m σ H)/\∀i m σ H,W i m σ H ->
   ((vM K a).stop i H/\D.nx σ H)\/ ((vM K a).go i H/\∃N:St ->Hp ->Prop,(∀σ' H',N σ' H' ->∃m',m' <m/\W (i+1) m' σ' H')/\∀x H',(vM K a).yld i H x H' ->g x σ H' fun σ2 H2=>tb {D with nx:=N,ct:=N,bk:=D.nx} σ2 H2):=by
 refine⟨fun i m σ H=>m=xs.length - i/\i<=xs.length/\Pv i σ H,⟨xs.length,by simp,Nat.zero_le _,h0⟩,?_⟩
 rintro i m σ H ⟨rfl,hi,p⟩;have q:=hl i σ H hi p;by_cases hlt:i<xs.length
 ·refine .inr ⟨⟨xs,xs[i],q,by simp [hlt]⟩,Pv (i+1),fun σ' H' p' =>⟨xs.length - (i+1),by omega,rfl,hlt,p'⟩,fun x H' y=> ?_⟩
  obtain⟨e,y⟩:=y;subst e;exact hs i x σ _ (y xs q) p
 ·have e:i=xs.length:=by omega
  subst e;exact .inl ⟨⟨xs,q,zM _⟩,hd σ H p⟩
theorem zt5{lo:Int}{n:Nat}{g:TG}{tb:TS}{D:Ends}{σ:St}{H:Hp}(Pv:Nat ->St ->Hp ->Prop)(h0:Pv 0 σ H)
  (hs:∀i σ H,i<n ->Pv i σ H ->g (.int (lo+i)) σ H fun σ2 H2=>tb {D with nx:=Pv (i+1),ct:=Pv (i+1),bk:=D.nx} σ2 H2) (hd:∀σ H,Pv n σ H ->D.nx σ H):
  ∃W:Nat ->Nat ->St ->Hp ->Prop,(∃m,W 0 m σ H)/\∀i m σ H,W i m σ H ->
   ((uh lo n).stop i H/\D.nx σ H)\/ ((uh lo n).go i H/\∃N:St ->Hp ->Prop,(∀σ' H',N σ' H' ->∃m',m' <m/\W (i+1) m' σ' H')/\∀x H',(uh lo n).yld i H x H' ->g x σ H' fun σ2 H2=>tb {D with nx:=N,ct:=N,bk:=D.nx} σ2 H2):=by
 refine⟨fun i m σ H=>m=n - i/\i<=n/\Pv i σ H,⟨n,by simp,Nat.zero_le _,h0⟩,?_⟩
 rintro i m σ H ⟨rfl,hi,p⟩;by_cases hlt:i<n
 ·refine .inr ⟨hlt,Pv (i+1),fun σ' H' p' =>⟨n - (i+1),by omega,rfl,hlt,p'⟩,fun x H' y=> ?_⟩
  obtain⟨e,y⟩:=y;subst e y;exact hs i σ _ hlt p
 ·have e:i=n:=by omega
  subst e;exact .inl ⟨zM _,hd σ H p⟩
abbrev R2:=V ->V ->Hp ->VK ->Prop
def gJ(X:Cx)(f:Value ->Value ->Sem Value)(r:R2):Prop:=
 ∀(pins:bw) (s:Shared) (σ:St) (H:Hp) (x y:V) (v u:Value) (Q:VK),Inv X pins σ H s ->RelV x v ->RelV y u ->r x y H Q ->
  wpAny (model X.prog X.w) X.A (f v u) (EP X pins σ Q) X.xe s
def Lz(X:Cx)(f:Value ->Sem Value)(r:V ->Hp ->VK ->Prop):Prop:=
 ∀(pins:bw) (s:Shared) (σ:St) (H:Hp) (x:V) (v:Value) (Q:VK),Inv X pins σ H s ->RelV x v ->r x H Q ->
  wpAny (model X.prog X.w) X.A (f v) (EP X pins σ Q) X.xe s
def cG(X:Cx)(f:Value)(r:List V ->Hp ->VK ->Prop):Prop:=
 ∀(pins:bw) (s:Shared) (σ:St) (H:Hp) (xs:List V) (us:List Value) (Q:VK),Inv X pins σ H s ->Vals xs us ->r xs H Q ->
  wpAny (model X.prog X.w) X.A (call f us) (EP X pins σ Q) X.xe s
def aam(X:Cx)(r:V ->Hp ->(Bool ->Hp ->Prop) ->Prop):Prop:=
 ∀(pins:bw) (s:Shared) (σ:St) (H:Hp) (x:V) (v:Value) (Q:Bool ->Hp ->Prop),Inv X pins σ H s ->RelV x v ->r x H Q ->
  wpAny (model X.prog X.w) X.A (truthy v) (TP X pins σ Q) X.xe s
def CK(r:R2)(ta tb:TE):TE:=fun σ H Q=>ta σ H fun x H1=>tb σ H1 fun y H2=>r x y H2 Q
def tUn(r:V ->Hp ->VK ->Prop)(ta:TE):TE:=fun σ H Q=>ta σ H fun x H1=>r x H1 Q
def rI(C:Int ->Int ->Prop)(g:Int ->Int ->V):R2:=fun x y H Q=>∃i j,x= .int i/\y= .int j/\C i j/\Q (g i j) H
def w6(g:Int ->Int ->V):R2:=fun x y H Q=>∃i j,x= .int i/\y= .int j/\Q (g i j) H
def rU(g:Int ->V):V ->Hp ->VK ->Prop:=fun x H Q=>∃i,x= .int i/\Q (g i) H
section
variable{X:Cx}{a b c:Expr}{ta tb tc:TE}{pos:Pos}
theorem xq(ha:PE X a ta)(hb:PE X b tb){pins:bw}{s:Shared}{σ:St}{H:Hp}{R:V ->V ->Hp ->Prop}(I:Inv X pins σ H s)
  (h:ta σ H fun x H1=>tb σ H1 fun y H2=>R x y H2) {Q:bG} {f:Value ->Value ->Sem Value}
  (hf:∀v u s2 x y H2,Inv X pins σ H2 s2 ->RelV x v ->RelV y u ->R x y H2 ->wpAny (model X.prog X.w) X.A (f v u) Q X.xe s2):
  wpAny (model X.prog X.w) X.A (eval a X.env) (fun v s₁=>wpAny (model X.prog X.w) X.A (eval b X.env) (fun u s₂=>wpAny (model X.prog X.w) X.A (f v u) Q X.xe s₂) X.xe s₁) X.xe s:=by
 refine bF (ha pins s σ H _ I h) fun v s1 LC=> ?_;obtain⟨x,H1,I1,r1,q1⟩:=LC;refine bF (hb pins s1 σ H1 _ I1 q1) fun u s2 LK=> ?_;obtain⟨y,H2,I2,r2,q2⟩:=LK;exact hf v u s2 x y H2 I2 r1 r2 q2
theorem Vf{op:Operator}{r:R2}(ho:gJ X (binaryOp op) r)(ha:PE X a ta)(hb:PE X b tb):PE X (.BinOp a op b pos) (CK r ta tb):=by
 intro pins s σ H Q I h;exact wpAny_BinOp (xq ha hb I h fun v u s2 x y H2 I2 rx ry q=>ho pins s2 σ H2 x y v u Q I2 rx ry q)
theorem Vg{op:UnaryOp}{r:V ->Hp ->VK ->Prop}(ho:Lz X (unaryOp op) r)(ha:PE X a ta):PE X (.UnaryOp op a pos) (tUn r ta):=by
 intro pins s σ H Q I h;exact UnaryOp_ (bF (ha pins s σ H _ I h) fun v s1 LQ=>by obtain⟨x,H1,I1,r1,q1⟩:=LQ;exact ho pins s1 σ H1 x v Q I1 r1 q1)
theorem Im{f:Value ->Value ->Sem Value}{C:Int ->Int ->Prop}{g:Int ->Int ->Int}
  (rule:∀(i j:Int) (t u:Tok) (s:Shared) (Q:bG) (E:bG),C i j ->Q (.int (g i j) s.toks) {s with toks:=s.toks+1} ->wpAny (model X.prog X.w) X.A (f (.int i t) (.int j u)) Q E s):
  gJ X f (rI C fun i j=> .int (g i j)):=by
 intro pins s σ H x y v u Q I rx ry h;obtain⟨i,j,rfl,rfl,hc,q⟩:=h;obtain⟨t,rfl⟩:=rx;obtain⟨t',rfl⟩:=ry;exact rule i j t t' s _ _ hc ⟨.int (g i j),H,I.tok _,⟨_,rfl⟩,q⟩
theorem CN{f:Value ->Value ->Sem Value}{g:Int ->Int ->Int}
  (rule:∀(i j:Int) (t u:Tok) (s:Shared) (Q:bG) (E:bG),Q (.int (g i j) s.toks) {s with toks:=s.toks+1} ->wpAny (model X.prog X.w) X.A (f (.int i t) (.int j u)) Q E s):
  gJ X f (w6 fun i j=> .int (g i j)):=by
 intro pins s σ H x y v u Q I rx ry h;obtain⟨i,j,rfl,rfl,q⟩:=h;obtain⟨t,rfl⟩:=rx;obtain⟨t',rfl⟩:=ry;exact rule i j t t' s _ _ ⟨.int (g i j),H,I.tok _,⟨_,rfl⟩,q⟩
theorem CP{f:Value ->Value ->Sem Value}{g:Int ->Int ->Bool}
  (rule:∀(i j:Int) (t u:Tok) (s:Shared) (Q:bG) (E:bG),Q (.bool (g i j)) s ->wpAny (model X.prog X.w) X.A (f (.int i t) (.int j u)) Q E s):
  gJ X f (w6 fun i j=> .bl (g i j)):=by
 intro pins s σ H x y v u Q I rx ry h;obtain⟨i,j,rfl,rfl,q⟩:=h;obtain⟨t,rfl⟩:=rx;obtain⟨t',rfl⟩:=ry;exact rule i j t t' s _ _ ⟨.bl (g i j),H,I,rfl,q⟩
def aan(i j:Int):Prop:=0<j/\j<1073741824
def Vh(i j:Int):Prop:=j≠0/\j.natAbs<1073741824
def uQ(i j:Int):Prop:=0<=j/\j<=1000000/\i.natAbs<2^64
def aao(i j:Int):Prop:=(-(2^64)<i/\i<2^64)\/ (-(2^64)<j/\j<2^64)
theorem z3t:gJ X (binaryOp .Add) (w6 fun i j=> .int (i+j)):=CN fun _ _ _ _ _ _ _ q=>add_int q
theorem z2y:gJ X (binaryOp .Sub) (w6 fun i j=> .int (i - j)):=CN fun _ _ _ _ _ _ _ q=>sub_int q
theorem z0k:gJ X (binaryOp .Mod) (rI (fun _ j=>j≠0) fun i j=> .int (i.fmod j)):=Im fun _ _ _ _ _ _ _ hc q=>mod_int' hc q
theorem z2n:gJ X (binaryOp .Pow) (rI uQ fun i j=> .int (i^j.toNat)):=Im fun _ _ _ _ _ _ _ hc q=>pow_int_small hc.1 hc.2.1 hc.2.2 q
theorem unI{f:Value ->Sem Value}{g:Int ->Int}
  (rule:∀(i:Int) (t:Tok) (s:Shared) (Q:bG) (E:bG),Q (.int (g i) s.toks) {s with toks:=s.toks+1} ->wpAny (model X.prog X.w) X.A (f (.int i t)) Q E s):
  Lz X f (rU fun i=> .int (g i)):=by
 intro pins s σ H x v Q I rx h;obtain⟨i,rfl,q⟩:=h;obtain⟨t,rfl⟩:=rx;exact rule i t s _ _ ⟨.int (g i),H,I.tok _,⟨_,rfl⟩,q⟩
theorem Vi:Lz X (unaryOp .USub) (rU fun i=> .int (-i)):=unI fun _ _ _ _ _ q=>neg_int q
end
def CQ:V ->V ->Bool
 | .non,.non=>true | .non,.int _=>true | .int _,.non=>true | .non,.bl _=>true | .bl _,.non=>true | .non,.str _=>true | .str _,.non=>true
 | .int _,.int _=>true | .bl _,.bl _=>true | .str _,.str _=>true | .wQ _,.wQ _=>true
 | .int _,.str _=>true | .str _,.int _=>true | .bl _,.str _=>true | .str _,.bl _=>true
 | _,_=>false
def rEq:R2:=fun x y H Q=>CQ x y=true/\Q (.bl (decide (x=y))) H
def rNe:R2:=fun x y H Q=>CQ x y=true/\Q (.bl (!decide (x=y))) H
section
variable{X:Cx}{a b c:Expr}{ta tb tc:TE}{pos:Pos}
theorem z48:gJ X (compareOp .Lt) (w6 fun i j=> .bl (decide (i<j))):=CP fun _ _ _ _ _ _ _ q=>lt_int q
theorem z5s:gJ X (compareOp .Gt) (w6 fun i j=> .bl (decide (j<i))):=CP fun _ _ _ _ _ _ _ q=>gt_int q
def isObj:HO ->Bool
 | .lst _=>true
 | .ins _ _ _=>true
 | _=>false
theorem aL(b:Expr){op:CmpOp}(h:op≠ .In:=by decide)(h2:op≠ .NotIn:=by decide):behindInMarks op b=false:=by
 have e1:(op==CmpOp.In)=false:=by cases op<;>first | rfl | exact absurd rfl h
 have e2:(op==CmpOp.NotIn)=false:=by cases op<;>first | rfl | exact absurd rfl h2
 cases b<;>simp [behindInMarks,e1,e2]
theorem z2d{op:CmpOp}{r:R2}(ho:gJ X (compareOp op) r)(ha:PE X a ta)(hb:PE X b tb)(hm:behindInMarks op b=false):PE X (.Compare a [op] [b] pos) (CK r ta tb):=by
 intro pins s σ H Q I h;exact wpAny_Compare1 (xq ha hb I h fun v u s2 x y H2 I2 rx ry q=>ho pins s2 σ H2 x y v u Q I2 rx ry q) hm
def CT(t:TE):TT:=fun σ H Q=>t σ H fun x H' =>∃k,x= .bl k/\Q k H'
theorem z1r{op:CmpOp}{r:R2}(ho:gJ X (compareOp op) r)(ha:PE X a ta)(hb:PE X b tb)(hm:behindInMarks op b=false):PT X (.Compare a [op] [b] pos) (CT (CK r ta tb)):=by
 intro pins s σ H Q I h;refine wpAny_isTrue_Compare1 (bF (ha pins s σ H _ I h) fun v s1 ⟨x,H1,I1,r1,q1⟩=>bF (hb pins s1 σ H1 _ I1 q1) fun u s2 ⟨y,H2,I2,r2,q2⟩=>
  bF (ho pins s2 σ H2 x y v u _ I2 r1 r2 q2) fun c s3 ⟨z,H3,I3,r3,k,e,q3⟩=> ?_) hm
 subst e;cases r3;exact wpAny_truthy_bool ⟨H3,I3,q3⟩
def LR(r r' :R2)(ta tb tc:TE):TE:=fun σ H Q=>ta σ H fun x H1=>tb σ H1 fun y H2=>r x y H2 fun z H3=>∃k,z= .bl k/\
 (if k=true then tc σ H3 fun w' H4=>r' y w' H4 Q else Q (.bl false) H3)
def aap(K:W.Frag)(x:V)(H:Hp)(k:Bool):Prop:=
 match x with
 | .non=>k=false
 | .bl b=>k=b
 | .int i=>k=(i !=0)
 | .str y=>y.length<=sizeLine/\k=((y.length:Int) !=0)
 | .wQ y=>y.size<=sizeLine/\k=((y.size:Int) !=0)
 | .ref p=>(∃xs,fO K H p xs/\k= !xs.isEmpty)\/ (∃xs,iK K H p xs/\k= !xs.isEmpty)\/∃kvs,H p=some (.dK kvs)/\k= !kvs.isEmpty
 | _=>False
theorem jl:(sizeLine:Nat)<2^63:=by rw[sizeLine_eq];decide
theorem zrd:gJ X (binaryOp .Add) (fun x y H Q=>∃i j,x= .str i/\y= .str j/\i.length+j.length<=sizeLine/\Q (.str (i++j)) H):=by
 intro pins s σ H x y v u Q I rx ry h;obtain⟨i,j,rfl,rfl,hz,q⟩:=h;obtain⟨t,rfl⟩:=rx;obtain⟨t',rfl⟩:=ry;exact add_str (fun t' tk=>⟨.str (i++j),H,I.tok _,⟨_,rfl⟩,q⟩) hz
def z4u(b:Expr):Prop:=∀o i,subscripted b false o i=operate [o,i] (getItem o i)
theorem vals1{x:V}{us:List Value}(r:Vals [x] us):∃u,us= [u]/\RelV x u:=by
 cases r with
 | cons r1 r2=>cases r2;exact⟨_,rfl,r1⟩
theorem zx1:cG X (.builtin "abs") (fun xs H Q=>∃i,xs= [.int i]/\Q (.int (if i<0 then -i else i)) H):=by
 intro pins s σ H xs us Q I r h;obtain⟨i,rfl,q⟩:=h;obtain⟨u,rfl,t,rfl⟩:=vals1 r;exact call_abs_int fun u tk=>⟨.int (if i<0 then -i else i),H,I.tok _,⟨_,rfl⟩,q⟩
def aaq(K:W.Frag)(x:V)(H:Hp)(n:Nat):Prop:=
 match x with
 | .str y=>y.length<=sizeLine/\n=y.length
 | .wQ y=>y.size<=sizeLine/\n=y.size
 | .ref p=>(∃xs,fO K H p xs/\n=xs.length)\/∃xs,iK K H p xs/\n=xs.length
 | _=>False
end
structure aar (h:Heap) (x dx C:Addr) (mA:Str ->Option Value):Prop where
 obj:h.get? x=some (W.instObj C dx)
 ns:h.Ns1 dx mA
 ne:dx≠x
section
variable{prog:Program}{w:World}{A:Around}{E:bG}{s:Shared}{K:W.Frag}{x dx C f:Addr}{mA:Str ->Option Value}{name:Str}{v:Value}
end
def xr(f:Str)(v:V):List (Str×V) ->List (Str×V)
 | []=> [(f,v)]
 | (g,x)::r=>if g=f then(g,v)::r else(g,x)::xr f v r
theorem lK.some_of{v:V}{o:Option Value}(r:lK (some v) o):∃u,o=some u/\RelV v u:=by
 cases o with
 | none=>exact(show False from r).elim
 | some u=>exact⟨u,rfl,r⟩
section
variable{P:Program}{w:World}{H H' :Hp}{h h' :Heap}{a C dx:Addr}{fs fs' :List (Str×V)}
end
structure Cls (K:W.Frag) (C:Addr):Prop where
 pg:W.plainGet K C Str.empty=true
 hd:W.hasDictIn K C=true
 po:W.plainOver K C=true
 sa:W.findIn K (.ref C) "__setattr__" =some (some (.builtin "object.__setattr__"))
def oR(K:W.Frag)(C:Addr)(f:Str):Prop:=W.findIn K (.ref C) f=some none
structure Con (K:W.Frag) (C:Addr) (f:Str) (v:V) (u:Value):Prop where
 at_:W.findIn K (.ref C) f=some (some u)
 rel:RelV v u
 get:W.specialIn K u "__get__" =some none
 cp:W.copiedNames.contains f=false
structure Meth (K:W.Frag) (C:Addr) (m:Str) (f:Addr):Prop where
 at_:W.findIn K (.ref C) m=some (some (.ref f))
 fn:W.isFn K (.ref f)=true
 kp:W.keepIn K (.ref f)=true
section
variable{X:Cx}{pins:bw}{σ:St}{H:Hp}{s:Shared}{a C dx:Addr}{fs:List (Str×V)}{f:Str}{v:V}{A:Around}{E:bG}
end
def aas(K:W.Frag)(ta:TE)(f:Str):TE:=fun σ H Q=>ta σ H fun x H1=>∃a C dx fs v,x= .ref a/\H1 a=some (.ins C dx fs)/\Cls K C/\oR K C f/\fs.lookup f=some v/\Q v H1
def aat(K:W.Frag)(ta:TE)(f:Str):TE:=fun σ H Q=>ta σ H fun x H1=>∃a C dx fs v u,x= .ref a/\H1 a=some (.ins C dx fs)/\Cls K C/\Con K C f v u/\fs.lookup f=none/\Q v H1
def aau(K:W.Frag)(ta tv:TE)(f:Str):TS:=fun D σ H=>tv σ H fun y H1=>ta σ H1 fun x H2=>∃a C dx fs,x= .ref a/\H2 a=some (.ins C dx fs)/\Cls K C/\oR K C f/\fs.length<1000/\
 D.nx σ (upd H2 a (.ins C dx (xr f y fs)))
def aav(X:Cx)(op:Operator)(rd:V ->V ->Hp ->VK ->Prop):Prop:=
 ∀(pins:bw) (s:Shared) (σ:St) (H:Hp) (x y:V) (u v:Value) (Q:VK),Inv X pins σ H s ->RelV x u ->RelV y v ->rd x y H Q ->wpAny (model X.prog X.w) X.A (inplaceOp op u v) (EP X pins σ Q) X.xe s
def z4x(K:W.Frag)(ta tv:TE)(rd:V ->V ->Hp ->VK ->Prop)(f:Str):TS:=fun D σ H=>ta σ H fun x H1=>∃a C dx fs v,x= .ref a/\H1 a=some (.ins C dx fs)/\Cls K C/\oR K C f/\fs.lookup f=some v/\
 tv σ H1 fun y H2=>rd v y H2 fun z H3=>∃Vj fs',H3 a=some (.ins C Vj fs')/\fs'.length<1000/\D.nx σ (upd H3 a (.ins C Vj (xr f z fs')))
section
variable{X:Cx}{o e value:Expr}{f:Str}{pos pos' tpos:Pos}{ta tv:TE}
def aaw:V ->V ->Hp ->VK ->Prop:=fun x y H Q=>∃i j,x= .int i/\y= .int j/\Q (.int (i+j)) H
def aax:V ->V ->Hp ->VK ->Prop:=fun x y H Q=>∃i j,x= .int i/\y= .int j/\Q (.int (i - j)) H
end
section
variable{X:Cx}{pins:bw}{σ:St}{H:Hp}{s:Shared}{A:Around}{E:bG}{Q:bG}{c:Value}{b:Bool}
inductive jU (K:W.Frag) (H:Hp):V ->Value ->Prop where
 | non:jU K H .non (.type "NoneType")
 | bl (x:Bool):jU K H (.bl x) (.type "bool")
 | int (i:Int):jU K H (.int i) (.type "int")
 | str (x:Str):jU K H (.str x) (.type "str")
 | flt (x:UInt64):jU K H (.flt x) (.type "float")
 | lst {a:Addr} {xs:List V} (e:H a=some (.lst xs)):jU K H (.ref a) (.type "list")
 | frz {a:Addr} {o:Obj} {xs:List V} (e:H a=some (.frz o (.lst xs))):jU K H (.ref a) (.type "list")
 | tup {a:Addr} {xs:List V} (e:H a=some (.tup xs)):jU K H (.ref a) (.type "tuple")
 | dK {a:Addr} {kvs:List (Key×V)} (e:H a=some (.dK kvs)):jU K H (.ref a) (.type "dict")
 | dT {a:Addr} {kvs:List (List Key×V)} (e:H a=some (.dT kvs)):jU K H (.ref a) (.type "dict")
 | ins {a C dx:Addr} {fs:List (Str×V)} (e:H a=some (.ins C dx fs)) (cl:Cls K C) (ha:W.findIn K (.ref C) "__class__" =some (some (.builtin "object.__class__")))
   (hn:W.specialIn K (.builtin "object.__class__") "__get__" =some (some (.builtin "getset_descriptor.__get__"))) (htk:W.takesIn K (.builtin "object.__class__")=some true)
   (hm:W.mroIn K C (.type "object")=some true):jU K H (.ref a) (.ref C)
end
structure eU (k:Nat) (A:Around):Prop where
 hd:A.handled=none
 dp:A.depth+3*k+5<recursionLimit
 un:A.units+16*k+200<cLine
theorem eU.mono{j k:Nat}{A:Around}(r:eU k A)(h:j<=k):eU j A:=⟨r.hd,by have:=r.dp;omega,by have:=r.un;omega⟩
theorem eU.deeper{k:Nat}{A:Around}(r:eU (k+1) A)(env:Env):eU k (A.deeper env):=
 ⟨r.hd,by have:=r.dp;show A.depth+1+3*k+5<_;omega,by have:=r.un;show A.units+3+16*k+200<_;omega⟩
theorem eU.depth{k:Nat}{A:Around}(r:eU k A):A.depth<recursionLimit:=by have:=r.dp;omega
theorem eU.units{k:Nat}{A:Around}(r:eU k A):A.units+64<cLine:=by have:=r.un;omega
def Ma:TA:=fun _ H Q=>Q [] H
def CV(ta:TE)(tr:TA):TA:=fun σ H Q=>ta σ H fun x H1=>tr σ H1 fun xs H2=>Q (x::xs) H2
section
variable{X:Cx}{e:Expr}{es:List Expr}{te:TE}{t:TA}{pos:Pos}
theorem Vk:PA X [] Ma:=fun _ _ _ _ H Q I h=>Calls.spliced_nil ⟨[],H,I,.nil,h⟩
theorem Vl(ha:PE X e te)(hr:PA X es t)(hs:starEach (e::es) X.env=(false,eval e X.env)::starEach es X.env:=by rfl):PA X (e::es) (CV te t):=by
 intro pos pins s σ H Q I h;rw[hs];show wpAny _ _ (spliced ((false,eval e X.env)::backTo pos (starEach es X.env))) _ _ s;refine Calls.spliced_cons (bF (ha pins s σ H _ I h) fun u s1 Mf=> ?_);obtain⟨x,H1,I1,r1,q1⟩:=Mf;exact bF (hr pos pins s1 σ H1 _ I1 q1) fun us s2 Mg=>by obtain⟨xs,H2,I2,r2,q2⟩:=Mg;exact⟨x::xs,H2,I2,.cons r1 r2,q2⟩
def Mh(t:TA):TE:=fun σ H Q=>t σ H fun xs H1=>xs.length<=sizeLine/\∀p,H1 p=none ->Q (.ref p) (upd H1 p (.tup xs))
def Mi(t:TA):TE:=fun σ H Q=>t σ H fun xs H1=>xs.length<=sizeLine/\∀p,H1 p=none ->Q (.ref p) (upd H1 p (.lst xs))
theorem z4a{x1}(h:PA X es t):PE X (.Tuple es x1 pos) (Mh t):=by
 intro pins s σ H Q I hq;refine wpAny_Tuple_spliced (bF (h pos pins s σ H _ I hq) fun us s1 ⟨xs,H1,I1,r,z,q⟩=>⟨by rw[<- r.length];exact z,?_⟩)
 have hf:H1 s1.heap.objs.size=none:=I1.hok.fresh (zM _);refine⟨.ref s1.heap.objs.size,upd H1 s1.heap.objs.size (.tup xs),I1.laid (t' :=s1.toks) (fun b u e=>zZ _ e) (zM _) ?_,rfl,q _ hf⟩;exact⟨z,us,r,⟨_,zY _ rfl,rfl,_,rfl⟩⟩
theorem z2q(h:PA X es t):PE X (.List es pos) (Mi t):=by
 intro pins s σ H Q I hq;refine wpAny_List_spliced (bF (h pos pins s σ H _ I hq) fun us s1 ⟨xs,H1,I1,r,z,q⟩=>⟨by rw[<- r.length];exact z,?_⟩)
 have hf:H1 s1.heap.objs.size=none:=I1.hok.fresh (zM _);refine⟨.ref s1.heap.objs.size,upd H1 s1.heap.objs.size (.lst xs),I1.laid (t' :=s1.toks) (fun b u e=>zZ _ e) (zM _) ?_,rfl,q _ hf⟩;exact⟨z,us,0,r,zY _ rfl⟩
end
abbrev Sp:=List V ->Hp ->VK ->XK ->Prop
abbrev qj:=List Env ->Hp ->Shared ->XK ->Value ->Shared ->Prop
structure uR (P:Program) (w:World) (K:W.Frag) (mg:Str ->Option Value) (base:Heap) (A:Around) (outer:List Env) (s:Shared) (H:Hp):Prop where
 frames:A.frames=some outer
 mod:Mod K mg base
 bs:∀b o,base.get? b=some o ->s.heap.get? b=some o/\H b=none
 zy:base.objs.size<=s.heap.objs.size
 funs:s.heap.FunFrames base outer
 Ci:∀b∈frs outer,H b=none
 hok:gR P w H s.heap
 bare:AllBare s.gens
def CE(outer:List Env)(P:Program)(w:World)(H:Hp)(s:Shared)(Q:VK)(u:Value)(s' :Shared):Prop:=
 ∃v H',s'.os=s.os/\AllBare s'.gens/\Un (frs outer) [] H H' s.heap s'.heap/\gR P w H' s'.heap/\RelV v u/\Q v H'
def CR(CX:qj)(outer:List Env)(P:Program)(w:World)(H:Hp)(s:Shared)(Q:VK)(E:XK)(r:Result)(s' :Shared):Prop:=
 match r with
 | .ok (.ret u)=>CE outer P w H s Q u s'
 | .ok _=>False
 | .error e=>CX outer H s E e s'
structure d7 (P:Program) (w:World) (K:W.Frag) (mg:Str ->Option Value) (base:Heap) (CX:qj) (k:Nat) (f:Addr) (fd:FuncData) (ps:List Str) (sp:Sp):Prop where
 len:∀vs H Q E,sp vs H Q E ->vs.length=ps.length
 run:∀(A:Around) (outer:List Env) (s:Shared) (H:Hp) (args:Args) (us:List Value) (vs:List V) (Q:VK) (E:XK),eU k A ->uR P w K mg base A outer s H ->BindsTo s fd args (ps.zip us) ->Vals vs us ->sp vs H Q E ->
  codeAny (model P w) A (.call (.ref f) args) (CR CX outer P w H s Q E) s
theorem d7.imp{P:Program}{w:World}{K:W.Frag}{mg:Str ->Option Value}{base:Heap}{CX:qj}{k:Nat}{f:Addr}{fd:FuncData}{ps:List Str}{sp Vm :Sp}(F:d7 P w K mg base CX k f fd ps sp)
  (h:∀vs H Q E,Vm vs H Q E ->sp vs H Q E):d7 P w K mg base CX k f fd ps Vm :=
 ⟨fun vs H Q E q=>F.len vs H Q E (h _ _ _ _ q),fun A outer s H args us vs Q E hr he hb hv hs=>F.run A outer s H args us vs Q E hr he hb hv (h _ _ _ _ hs)⟩
section
variable{X:Cx}{pins:bw}{σ:St}{H:Hp}{s s' :Shared}
theorem Inv.env0(I:Inv X pins σ H s):uR X.prog X.w X.K X.mg X.base X.A X.stack s H:=
 ⟨I.ok.frames,I.ok.mod,I.bs,zN I.ok.zy I.sz,I.stack,I.stkFree,I.hok,I.bare⟩
theorem Inv.after{Q:VK}{u:Value}(I:Inv X pins σ H s)(h:CE X.stack X.prog X.w H s Q u s'):EP X pins σ Q u s' :=by
 obtain⟨v,H',os,bare,un,hok,r,q⟩:=h;obtain⟨hh,g,d,t,os'⟩:=s';obtain rfl:os' =s.os:=os;exact⟨v,H',I.call (h' :=hh) (g' :=g) (d' :=d) (t' :=t) (ch:= []) un hok bare (fun b z=>absurd z (by simp)),r,q⟩
end
def Vn(sp:Sp)(Ab:List V)(E:XK)(t:TA):TE:=fun σ H Q=>t σ H fun vs H1=>sp (vs++Ab) H1 Q E
def Vo(C:Addr)(m:Str)(sp:Sp)(Ab:List V)(E:XK)(ta:TE)(t:TA):TE:=fun σ H Q=>ta σ H fun x H1=>∃a dx fs,x= .ref a/\H1 a=some (.ins C dx fs)/\fs.lookup m=none/\
 t σ H1 fun vs H2=>sp (x::(vs++Ab)) H2 Q E
def Vp(C:Addr)(sp:Sp)(Ab:List V)(E:XK)(t:TA):TE:=fun σ H Q=>t σ H fun vs H1=>∀x dx,H1 x=none ->H1 dx=none ->dx≠x ->
 sp (.ref x::(vs++Ab)) (upd (upd H1 dx (.own x)) x (.ins C dx [])) (fun v H2=>v= .non/\Q (.ref x) H2) E
def Binds(K:W.Frag)(fd:FuncData)(ps:List Str)(ds:List Value):Prop:=
 ∀(s:Shared) (us:List Value),K.In s.heap ->(us++ds).length=ps.length ->BindsTo s fd ⟨us,[]⟩ (ps.zip (us++ds))
theorem Binds.all{K:W.Frag}{fd:FuncData}{ps:List Str}(h:∀us:List Value,us.length=ps.length ->bindArgs fd ⟨us,[]⟩=pure (ps.zip us)):Binds K fd ps []:=fun s us _ hl=>by
 rw[List.append_nil] at hl⊢;exact .of_eq (h us hl)
def Passes(CX:qj)(X:Cx)(E:XK):Prop:=∀(pins:bw) (σ:St) (H:Hp) (s:Shared) (e:Value) (s' :Shared),Inv X pins σ H s ->CX X.stack H s E e s' ->X.xe e s'
section
variable{X:Cx}{CX:qj}{k:Nat}{f C:Addr}{fd:FuncData}{ps:List Str}{sp:Sp}{Ab:List V}{ds:List Value}{E:XK}{x m:Str}{p pos apos:Pos}{e o:Expr}{es:List Expr}{ta:TE}{t:TA}
structure Mk (K:W.Frag) (C f:Addr):Prop where
 makes:W.makesIn K C=true
 init:W.findIn K (.ref C) "__init__" =some (some (.ref f))
 fn:W.isFn K (.ref f)=true
 kp:W.keepIn K (.ref C)=true
end
def PK(X:Cx)(kws:List Keyword)(t:TA):Prop:=
 ∀(pos:Pos) (pins:bw) (s:Shared) (σ:St) (H:Hp) (Q:List V ->Hp ->Prop),Inv X pins σ H s ->t σ H Q ->wpAny (model X.prog X.w) X.A (evalAll ((backToKw pos (keywordEach kws X.env)).map (·.2))) (AP X pins σ Q) X.xe s
section
variable{X:Cx}{CX:qj}{k:Nat}{f C:Addr}{fd:FuncData}{ps ks:List Str}{sp:Sp}{E:XK}{x m:Str}{p pos apos kpos:Pos}{e o:Expr}{es:List Expr}{kws:List Keyword}{te ta:TE}{t tk:TA}{nm:Option Str}
structure Mj (K:W.Frag) (fd:FuncData) (ps ks:List Str) (g:List Value ->List Value ->List Value) (gV:List V ->List V ->List V):Prop where
 to:∀(s:Shared) (us ws:List Value),K.In s.heap ->(g us ws).length=ps.length ->BindsTo s fd ⟨us,ks.zip ws⟩ (ps.zip (g us ws))
 rel:∀{vs:List V} {us:List Value} {zs:List V} {ws:List Value},Vals vs us ->Vals zs ws ->Vals (gV vs zs) (g us ws)
def Ml(sp:Sp)(gV:List V ->List V ->List V)(E:XK)(t tk:TA):TE:=fun σ H Q=>t σ H fun vs H1=>tk σ H1 fun zs H2=>sp (gV vs zs) H2 Q E
variable{g:List Value ->List Value ->List Value}{gV:List V ->List V ->List V}
end
structure aB (N P:List Str) (sc:Scope):Prop where
 kind:sc.kind= .function
 co:sc.isCoroutine=false
 gen:sc.isGenerator=false
 nd:N.Nodup
 pre:N.take P.length=P
 par:∀x∈P,sc.names.lookup x=some .local\/sc.names.lookup x=some .cell
 nofree:∀y∈sc.names,y.2≠ .free
theorem Vq{kindOf:Str ->Option NameKind}{x:Str}:∀{binds:List (Str×Value)} {m:Str ->Option Value},(∀v,(x,v)∉binds) ->bindL kindOf binds m x=m x
 | [],_,_=>rfl
 | (n,v)::r,m,h=>by
  unfold bindL;rw[Vq fun w hw=>h w (List.mem_cons_of_mem _ hw)];split
  ·have:x≠n:=by rintro rfl;exact h v zW
   simp [this]
  ·rfl
theorem Vr{kindOf:Str ->Option NameKind}{x:Str}:∀{binds:List (Str×Value)} {m:Str ->Option Value},(∀v,(x,v)∉binds) ->bindC kindOf binds m x=m x
 | [],_,_=>rfl
 | (n,v)::r,m,h=>by
  unfold bindC;rw[Vr fun w hw=>h w (List.mem_cons_of_mem _ hw)];split
  ·rfl
  ·have:x≠n:=by rintro rfl;exact h v zW
   simp [this]
theorem Vs{kindOf:Str ->Option NameKind}{x:Str}{v:Value}:∀{P:List Str} {vs:List Value} {i:Nat} {m:Str ->Option Value},P.Nodup ->P[i]?=some x ->vs[i]?=some v ->kindOf x=some .local ->
  bindL kindOf (P.zip vs) m x=some v
 | [],_,_,_,_,h,_,_=>by simp at h
 | _::_,[],_,_,_,_,h,_=>by simp at h
 | p::P,w::vs,0,m,nd,h1,h2,hk=>by
  simp at h1 h2;subst h1;subst h2;show bindL kindOf ((p,w)::P.zip vs) m p=_;unfold bindL;rw[Vq fun v hv=>(List.nodup_cons.mp nd).1 (List.of_mem_zip hv).1,if_pos hk];simp
 | p::P,w::vs,i+1,m,nd,h1,h2,hk=>by
  show bindL kindOf ((p,w)::P.zip vs) m x=_;unfold bindL;exact Vs (i:=i) (List.nodup_cons.mp nd).2 (by simpa using h1) (by simpa using h2) hk
theorem Vt{kindOf:Str ->Option NameKind}{x:Str}{v:Value}:∀{P:List Str} {vs:List Value} {i:Nat} {m:Str ->Option Value},P.Nodup ->P[i]?=some x ->vs[i]?=some v ->kindOf x≠some .local ->
  bindC kindOf (P.zip vs) m x=some v
 | [],_,_,_,_,h,_,_=>by simp at h
 | _::_,[],_,_,_,_,h,_=>by simp at h
 | p::P,w::vs,0,m,nd,h1,h2,hk=>by
  simp at h1 h2;subst h1;subst h2;show bindC kindOf ((p,w)::P.zip vs) m p=_;unfold bindC;rw[Vr fun v hv=>(List.nodup_cons.mp nd).1 (List.of_mem_zip hv).1,if_neg hk];simp
 | p::P,w::vs,i+1,m,nd,h1,h2,hk=>by
  show bindC kindOf ((p,w)::P.zip vs) m x=_;unfold bindC;exact Vt (i:=i) (List.nodup_cons.mp nd).2 (by simpa using h1) (by simpa using h2) hk
def start(N:List Str)(vs:List V):St:=vs.map some++List.replicate (N.length - vs.length) none
def jK(CX:qj)(P:Program)(w:World)(K:W.Frag)(mg:Str ->Option Value)(base:Heap)(N:List Str)(qual:Str)(scope:Scope)(f:Addr)(cd:Value)(A:Around)(outer:List Env)(s:Shared)(H:Hp)(E:XK):Cx where
 prog:=P
 w:=w
 K:=K
 mg:=mg
 base:=base
 A:=A.deeper (envOfC qual scope s.heap.objs.size f cd)
 N:=N
 s₀:=s
 H₀:=H
 env:=envOfC qual scope s.heap.objs.size f cd
 outer:=outer
 stack:=envOfC qual scope s.heap.objs.size f cd::outer
 ex:= []
 calm:=true
 fn:=fun _=>true
 pn:= []
 xe:=fun e s' =>wpAny (model P w) (A.deeper (envOfC qual scope s.heap.objs.size f cd)) (leaving (envOfC qual scope s.heap.objs.size f cd) e) (fun _ s'' =>CX outer H s E e s'') (fun e' s'' =>CX outer H s E e' s'') s'
theorem Vu{sc:Scope}{n:Nat}{x:Str}(h:sc.names.lookup x=some .cell):∃c,(cellsFrom n sc.names []).lookup x=some c:=by
 have q:=W.cellsFrom_some sc.names n [] (.inl h);exact Option.isSome_iff_exists.mp q
theorem zs8{CX:qj}{P:Program}{w:World}{K:W.Frag}{mg:Str ->Option Value}{base:Heap}{N ps:List Str}{qual:Str}{scope:Scope}{f:Addr}{cd:Value}{A:Around}{outer:List Env}{s s1:Shared}{H:Hp}{E:XK}{us:List Value}{vs:List V}
  (S:aB N ps scope) (hd:A.handled=none) (e0:uR P w K mg base A outer s H) (hl:vs.length=ps.length) (r:Vals vs us)
  (x:InCallC s s.heap.objs.size (bindL (envOfC qual scope s.heap.objs.size f cd).kindOf (ps.zip us) fun _=>none) (cellsFrom (s.heap.objs.size+1) scope.names []) (bindC (envOfC qual scope s.heap.objs.size f cd).kindOf (ps.zip us) fun _=>none) s1):
  Inv (jK CX P w K mg base N qual scope f cd A outer s H E) [] (start N vs) H s1:=by
 have hpl:ps.length<=N.length:=by have:=congrArg List.length S.pre;rw[List.length_take] at this;omega
 obtain⟨h1,tk,rfl,hk⟩:=x.done;have CW:∀b:Addr,b∉ (jK CX P w K mg base N qual scope f cd A outer s H E).ex:=fun b z=>absurd (show b∈ ([]:List Addr) from z) (by simp)
 refine⟨⟨e0.mod,S.kind,rfl,rfl,zM _,fun y z c h1 h2=> ?_,fun y hy=> ?_,fun y c _ h=> ?_,fun _=>hd,Around.frames_deeper e0.frames,.inr ⟨rfl,rfl⟩,fun b z=>absurd z (CW b),e0.bs,e0.zy,fun b _ _=>CW b,fun b z=>absurd z (CW b),e0.funs,e0.Ci⟩,
  rfl,e0.bare,Un.kept hk,⟨_,x.toInCall.ns,fun i y v h1 h2 h3=> ?_⟩,fun y c h=>⟨_,x.cell y c h⟩,e0.hok.fresh (zM _),fun y c h=> ?_,fun p hp=>absurd (show p∈ ([]:bw) from hp) (by simp),e0.hok.kept hk,?_⟩
 ·exact name_of_addr x.apart (PySem.mem_of_lookup h1) (PySem.mem_of_lookup h2)
 ·have hy:scope.names.lookup y=some .cell\/scope.names.lookup y=some .free:=hy;rcases hy with hy | hy
  ·exact Vu hy
  ·exact absurd rfl (S.nofree _ (PySem.mem_of_lookup hy))
 ·exact Nat.le_of_lt (x.above y c (PySem.mem_of_lookup h))
 ·have hi:i<vs.length:=by
   unfold start at h2;by_cases hi:i<vs.length
   ·exact hi
   ·rw[List.getElem?_append_right (by simpa using hi)] at h2
    rw[List.getElem?_replicate] at h2;split at h2<;>cases h2
  have ha:vs[i]?=some v:=by
   unfold start at h2;rw[List.getElem?_append_left (by simpa using hi),List.getElem?_map] at h2
   cases e:vs[i]? with
   | none=>rw[e] at h2;cases h2
   | some a=>rw[e] at h2;cases h2;rfl
  obtain⟨u,hu,rv⟩:=r.get ha;have hp:ps[i]?=some y:=by
   rw[<- S.pre,List.getElem?_take_of_lt (by omega)];exact h1
  have Vv:ps.Nodup:=by rw[<- S.pre];exact S.nd.sublist (List.take_sublist _ _)
  refine⟨u,rv,?_⟩;rcases S.par y (yZ hp) with k | k
  ·exact .inl ⟨k,Vs Vv hp hu k⟩
  ·obtain⟨c,e⟩:=Vu (n:=s.heap.objs.size+1) k;refine .inr ⟨.inl k,c,e,?_⟩;have q:=x.cell y c e;rw[Vt Vv hp hu (by show scope.names.lookup y≠_;rw[k];decide)] at q
   exact q
 ·exact e0.hok.fresh (Nat.le_of_lt (x.above y c (PySem.mem_of_lookup h)))
 ·unfold start;show _=N.length;rw[List.length_append,List.length_map,List.length_replicate];omega
theorem Vw{CX:qj}{P:Program}{w:World}{K:W.Frag}{mg:Str ->Option Value}{base:Heap}{k:Nat}{f:Addr}{name qual:Str}{params:Arguments}{body:List Stmt}{scope:Scope}{dV kV doc pm cdv ct oc:Value}{an od:Option Addr}
  {osl:Array (Option Value)} {N ps:List Str} {sp:Sp} (lk:K.lookup f=some ⟨oc,od,.func (W.fnOf name qual params body scope dV kV doc pm an cdv ct),osl⟩) (hcd:W.codeIn K cdv qual=true) (S:aB N ps scope)
  (len:∀vs H Q E,sp vs H Q E ->vs.length=ps.length)
  (hbody:∀(A:Around) (outer:List Env) (s:Shared) (H:Hp) (vs:List V) (Q:VK) (E:XK),eU k (A.deeper (envOfC qual scope s.heap.objs.size f cdv)) ->sp vs H Q E ->
   ∃t,qW (jK CX P w K mg base N qual scope f cdv A outer s H E) body t/\t {nx:=fun _ H' =>Q .non H',rt:=Q} (start N vs) H):
  d7 P w K mg base CX (k+1) f (W.fnOf name qual params body scope dV kV doc pm an cdv ct) ps sp:=by
 refine⟨len,fun A outer s H args us vs Q E hr e0 hb r hsp=> ?_⟩;have hl:=len _ _ _ _ hsp;have KX:K.In s.heap:=e0.mod.Cg.keeps fun b o e=>(e0.bs b o e).1;have lim:s.heap.NoLimit:=e0.mod.nolimit.keeps fun b o e=>(e0.bs b o e).1;have hkind:∀y∈ps.zip us,scope.names.lookup y.1=some .local\/ (scope.names.lookup y.1=some .cell/\ ((cellsFrom (s.heap.objs.size+1) scope.names []).lookup y.1).isSome=true):=fun⟨n,v⟩ hy=>by
  rcases S.par n (List.of_mem_zip hy).1 with q | q
  ·exact .inl q
  ·exact .inr ⟨q,W.cellsFrom_some _ _ _ (.inl q)⟩
 refine codeAny_call_function hr.depth (KX _ _ lk) rfl S.co S.gen rfl (W.codeRec_of KX hcd) (hb _ _ _ _ ?_);refine wpAny_newFunctionEnv_cells S.kind hkind fun env he s1 x=> ?_;subst he;refine⟨lim.keeps x.toInCall.keep,codeAny_func ?_⟩;obtain⟨t,ht,hq⟩:=hbody A outer s H vs Q E (hr.deeper _) hsp;have I:Inv (jK CX P w K mg base N qual scope f cdv A outer s H E) [] (start N vs) H s1:=zs8 S hr.hd e0 hl r x;refine wpAny_mono (ht [] s1 (start N vs) H _ I hq) (fun fl s' hs=> ?_) fun e s' hs=>hs;have fin:∀{σ' :St} {H' :Hp} {v:V} {u:Value},Inv (jK CX P w K mg base N qual scope f cdv A outer s H E) [] σ' H' s' ->RelV v u ->Q v H' ->CE outer P w H s Q u s' :=
  fun{σ' H' v u} J rv q=>⟨v,H',J.os,J.bare,J.base,J.hok,rv,q⟩
 cases fl with
 | ret u=>
  obtain⟨v,σ',H',J,rv,q⟩:=hs;exact fin J rv q
 | next=>
  obtain⟨σ',H',J,q⟩:=hs;exact fin (v:=V.non) (u:=Value.none) J rfl q
 | brk=>
  obtain⟨_,_,_,q⟩:=hs;exact False.elim q
 | cont=>
  obtain⟨_,_,_,q⟩:=hs;exact False.elim q
section
variable{X:Cx}{x:Str}{p pos:Pos}{e:Expr}{es:List Expr}{t:TA}{id T:String}{r:List V ->Hp ->VK ->Prop}
def CZ(r:List V ->Hp ->VK ->Prop)(t:TA):TE:=fun σ H Q=>t σ H fun vs H1=>r vs H1 Q
theorem Mp(hc:cG X (.builtin id) r)(hg:Gl X x)(hm:X.mg x=none)(hv:bootBuiltins x=some (.builtin id))(ha:PA X (e::es) t)(hn:x≠ "__name__" :=by decide)(hdb:(x==("__debug__" :Str))=false:=by decide)
  (he:starEach (e::es) X.env=(false,eval e X.env)::starEach es X.env:=by rfl) (hpl:(backTo pos (starEach es X.env)).any (·.1)=false:=by rfl):PE X (.Call (.Name x p) (e::es) [] pos) (CZ r t):=by
 intro pins s σ H Q I h;refine wpAny_Call_Name_kw (vK I hg hm hv ?_ hn hdb);exact PyProof.Rows.callWith_builtin1 (bF (ha pos pins s σ H _ I h) fun us s1 Mr=>by obtain⟨vs,H1,I1,r1,q1⟩:=Mr;exact hc pins s1 σ H1 vs us Q I1 r1 q1) he hpl
theorem Ms(hc:cG X (.type T) r)(hg:Gl X x)(hm:X.mg x=none)(hv:bootBuiltins x=some (.type T))(ha:PA X (e::es) t)(hn:x≠ "__name__" :=by decide)(hdb:(x==("__debug__" :Str))=false:=by decide)
  (he:starEach (e::es) X.env=(false,eval e X.env)::starEach es X.env:=by rfl) (hpl:(backTo pos (starEach es X.env)).any (·.1)=false:=by rfl):PE X (.Call (.Name x p) (e::es) [] pos) (CZ r t):=by
 intro pins s σ H Q I h;refine wpAny_Call_Name_kw (vK I hg hm hv ?_ hn hdb);exact PyProof.Rows.callWith_type1 (bF (ha pos pins s σ H _ I h) fun us s1 Mt=>by obtain⟨vs,H1,I1,r1,q1⟩:=Mt;exact hc pins s1 σ H1 vs us Q I1 r1 q1) he hpl
end
end L2
namespace HT
open PySem PyProof.Rows
def lexLt:List Int ->List Int ->Bool
 | [],[]=>false
 | [],_::_=>true
 | _::_,[]=>false
 | x::xs,y::ys=>if x=y then lexLt xs ys else decide (x<y)
section
open PySem.SeqAt
open PySem.AutoSeq1 (wpAny_loadPart')
open PySem.MeetsSeq PySem.MeetsSeq2 PySem.MeetsSeq3
end
section
variable{prog:Program}{w:World}{A:Around}{E:bG}{s:Shared}
def sIx(n d:Nat):Option Int ->Nat
 | none=>d
 | some v=>if v<0 then(v+ (n:Int)).toNat else min v.toNat n
end
end HT
namespace L2
open PySem PySem.Spec PyProof.Rows
abbrev TO:=St ->Hp ->(Option Int ->Hp ->Prop) ->Prop
def PO(X:Cx)(e:Option Expr)(t:TO):Prop:=
 ∀(pins:bw) (s:Shared) (σ:St) (H:Hp) (Q:Option Int ->Hp ->Prop),Inv X pins σ H s ->t σ H Q ->
  wpAny (model X.prog X.w) X.A (evalPart e X.env) (fun u s' =>∃o H',Inv X pins σ H' s' /\IsPart u o/\Q o H') X.xe s
def z08:TO:=fun _ H Q=>Q none H
def Dc(t:TE):TO:=fun σ H Q=>t σ H fun x H1=>∃i,x= .int i/\Q (some i) H1
section
variable{X:Cx}{e:Expr}{te:TE}{lo hi:Option Expr}{tl th:TO}{pos p2:Pos}
theorem z1v:PO X none z08:=by
 intro pins s σ H Q I h;rw[evalPart_none];exact z7 ⟨none,H,I,.none,h⟩
theorem z0q(h:PE X e te):PO X (some e) (Dc te):=by
 intro pins s σ H Q I hw;rw[evalPart_some];refine bF (h pins s σ H _ I hw) fun u s1 Mu=> ?_;obtain⟨x,H1,I1,r1,q1⟩:=Mu;obtain⟨i,rfl,q⟩:=q1;obtain⟨t,rfl⟩:=r1;exact⟨some i,H1,I1,.int i t,q⟩
def Vx(X:Cx)(r:V ->Option Int ->Option Int ->Hp ->VK ->Prop):Prop:=
 ∀(pins:bw) (s:Shared) (σ:St) (H:Hp) (x:V) (v vl vu:Value) (lo hi:Option Int) (sl:Addr) (Q:VK),Inv X pins σ H s ->RelV x v ->s.heap.IsSliceOf sl vl vu .none ->IsPart vl lo ->IsPart vu hi ->r x lo hi H Q ->
  ∃T id,typeLookup (.type T) "__getitem__" =pure (some (.builtin id))/\s.TypeIs v T/\wpAny (model X.prog X.w) X.A (getItem v (.ref sl)) (EP X pins σ Q) X.xe s
def tSl(r:V ->Option Int ->Option Int ->Hp ->VK ->Prop)(te:TE)(tl th:TO):TE:=fun σ H Q=>te σ H fun x H1=>tl σ H1 fun l H2=>th σ H2 fun u H3=>r x l u H3 Q
theorem zxp{r:V ->Option Int ->Option Int ->Hp ->VK ->Prop}(hr:Vx X r)(he:PE X e te)(hl:PO X lo tl)(hu:PO X hi th):PE X (.Subscript e (.Slice lo hi none p2) pos) (tSl r te tl th):=by
 intro pins s σ H Q I h;refine Subscript_ (bF (he pins s σ H _ I h) fun v s1 Mv=> ?_);obtain⟨x,H1,I1,r1,q1⟩:=Mv;refine wpAny_Slice (bF (hl pins s1 σ H1 _ I1 q1) fun vl s2 ⟨l,H2,I2,pl,q2⟩=>bF (hu pins s2 σ H2 _ I2 q2) fun vu s3 ⟨u,H3,I3,pu,q3⟩=> ?_);rw[evalPart_none];refine z7 ?_;have I4:Inv X pins σ H3 {s3 with heap:=s3.heap.push {cls:= .type "slice",data:= .fields #[vl,vu,.none]}}:=I3.kept (t' :=s3.toks) fun b ob q=>zZ _ q;obtain⟨T,id,hT,ht,hg⟩:=hr pins {s3 with heap:=s3.heap.push {cls:= .type "slice",data:= .fields #[vl,vu,.none]}} σ H3 x v vl vu l u s3.heap.objs.size Q I4 r1 (Heap.IsSliceOf.new ..) pl pu q3;show wpAny (model X.prog X.w) X.A (subscriptTail e (.Slice lo hi none p2) v (.ref s3.heap.objs.size)) (EP X pins σ Q) X.xe {s3 with heap:=s3.heap.push {cls:= .type "slice",data:= .fields #[vl,vu,.none]}};exact tail_any (ops:= [.ref s3.heap.objs.size,v]) ht hT hg (by with_unfolding_all rfl)
def oU(xs:List V)(lo hi:Option Int):List V:=(xs.drop (HT.sIx xs.length 0 lo)).take (HT.sIx xs.length xs.length hi - HT.sIx xs.length 0 lo)
theorem zoh(xs:List V)(lo hi:Option Int):(oU xs lo hi).length<=xs.length:=by
 unfold oU;rw[List.length_take,List.length_drop];omega
def aay(K:W.Frag):V ->Option Int ->Option Int ->Hp ->VK ->Prop:=fun x lo hi H Q=>∃a xs,x= .ref a/\iK K H a xs/\
 ¬(HT.sIx xs.length 0 lo=0/\HT.sIx xs.length xs.length hi=xs.length)/\∀p,H p=none ->Q (.ref p) (upd H p (.tup (oU xs lo hi)))
def aaz(K:W.Frag):R2:=fun x y H Q=>∃a b ns ms,x= .ref a/\y= .ref b/\iK K H a (ns.map V.int)/\iK K H b (ms.map V.int)/\Q (.bl (HT.lexLt ns ms)) H
def Vy(K:W.Frag):R2:=fun x y H Q=>∃a b xs ys,x= .ref a/\y= .ref b/\iK K H a xs/\iK K H b ys/\xs≠ []/\xs.length+ys.length<=sizeLine/\
 (ys= [] ->Q (.ref a) H)/\ (ys≠ [] ->∀p,H p=none ->Q (.ref p) (upd H p (.tup (xs++ys))))
end
def ql(n:Nat)(i:Int):Option Nat:=if 0<=i then(if i<n then some i.toNat else none) else if -(n:Int)<=i then some (i+n).toNat else none
def jC{α:Type}(xs:List α)(i:Int):Option α:=(ql xs.length i).bind fun j=>xs[j]?
theorem Vz{n:Nat}{i:Int}{j:Nat}(h:ql n i=some j):seqIndex? i n=some j/\j<n/\ -(n:Int)<=i/\i<n:=by
 unfold ql at h;by_cases h0:0<=i
 ·rw[if_pos h0] at h;by_cases h1:i<n
  ·rw[if_pos h1] at h;have e:i.toNat=j:=zF h;exact⟨by rw[seqIndex_of h0 h1,e],by omega,by omega,h1⟩
  ·rw[if_neg h1] at h;cases h
 ·rw[if_neg h0] at h;by_cases h1: -(n:Int)<=i
  ·rw[if_pos h1] at h;have e:(i+n).toNat=j:=zF h;exact⟨by rw[seqIndex_neg (by omega) h1,e],by omega,h1,by omega⟩
  ·rw[if_neg h1] at h;cases h
theorem Mw{α:Type}{xs:List α}{i:Int}{v:α}(h:jC xs i=some v):∃j,seqIndex? i xs.length=some j/\xs[j]?=some v/\j<xs.length/\ -(xs.length:Int)<=i/\i<xs.length:=by
 unfold jC at h;cases e:ql xs.length i with
 | none=>rw[e] at h;cases h
 | some j=>
  rw[e] at h;obtain⟨h1,h2,h3,h4⟩:=Vz e;exact⟨j,h1,h,h2,h3,h4⟩
theorem uT{α:Type}{xs:List α}{j:Nat}{v:α}(h:xs[j]?=some v):jC xs (j:Int)=some v:=by
 have hj:j<xs.length:=(zU.mp h).1;have e:ql xs.length (j:Int)=some j:=by
  unfold ql;rw[if_pos (by omega),if_pos (by omega)];simp
 unfold jC;rw[e];exact h
def VB(b:Expr):Prop:=∀o i,subscripted b false o i=operate [o,i] (getItem o i)
def Io(X:Cx)(r:R2):Prop:=
 ∀(value slice:Expr) (pins:bw) (s:Shared) (σ:St) (H:Hp) (x y:V) (v u:Value) (Q:VK),Inv X pins σ H s ->RelV x v ->RelV y u ->r x y H Q ->
  subscripted slice false v u=operate [v,u] (getItem v u) ->wpAny (model X.prog X.w) X.A (subscriptTail value slice v u) (EP X pins σ Q) X.xe s
def MtR(X:Cx)(id:String)(r:V ->List V ->Hp ->VK ->Prop):Prop:=
 ∀(pins:bw) (s:Shared) (σ:St) (H:Hp) (x:V) (xs:List V) (v:Value) (us:List Value) (Q:VK),Inv X pins σ H s ->RelV x v ->Vals xs us ->r x xs H Q ->
  wpAny (model X.prog X.w) X.A (call (.builtin id) (v::us)) (EP X pins σ Q) X.xe s
section
variable{X:Cx}{a b:Expr}{ta tb:TE}{pos:Pos}
theorem z5h{r:R2}(hr:Io X r)(ha:PE X a ta)(hb:PE X b tb)(hs:VB b):PE X (.Subscript a b pos) (CK r ta tb):=by
 intro pins s σ H Q I h;exact Subscript_ (xq ha hb I h fun v u s2 x y H2 I2 rx ry q=>hr a b pins s2 σ H2 x y v u Q I2 rx ry q (hs _ _))
def Dd(K:W.Frag):R2:=fun x y H Q=>∃p xs i v,x= .ref p/\y= .int i/\fO K H p xs/\jC xs i=some v/\Q v H
def Df(K:W.Frag):R2:=fun x y H Q=>∃p xs i v,x= .ref p/\y= .int i/\iK K H p xs/\jC xs i=some v/\Q v H
def Dg:R2:=fun x y H Q=>∃z i c,x= .str z/\y= .int i/\z.length<=sizeLine/\jC z.cps.toList i=some c/\Q (.str ⟨#[c]⟩) H
theorem z1e:Io X (Dd X.K):=by
 intro value slice pins s σ H x y v u Q I rx ry h hs;obtain⟨p,xs,i,z,rfl,rfl,hq,he,q⟩:=h;cases rx;obtain⟨t,rfl⟩:=ry;obtain⟨its,r,pl,hz⟩:=I.list hq;obtain⟨j,h1,h2,h3,h4,h5⟩:=Mw he;obtain⟨w,ew,lW⟩:=r.get h2;have hl:=r.length;have hn:=jl;have fin:EP X pins σ Q w s:=⟨z,H,I,lW,q⟩;by_cases h0:0<=i
 ·have hj:i.toNat=j:=by
   rw[seqIndex_of h0 h5] at h1;exact zF h1
  exact item_listR pl.isList h0 (by omega) (by rw[hj];simpa using ew) fin hs
 ·have hj:(i+ (its.toArray.size:Int)).toNat=j:=by
   rw[seqIndex_neg (by omega) h4] at h1
   rw[List.size_toArray,<- hl];exact zF h1
  exact subscriptTail_builtinR (x:=w) pl.isList.typeIs slot_list_getitem.lookup
   (wpAny_getItem_list_neg (Q:=fun r s' =>r=w/\EP X pins σ Q r s') pl.isList (by omega) (by rw[List.size_toArray]<;>omega) (by omega) (by rw[hj];simpa using ew) ⟨rfl,fin⟩) hs
theorem z21:Io X (Df X.K):=by
 intro value slice pins s σ H x y v u Q I rx ry h hs;obtain⟨p,xs,i,z,rfl,rfl,hq,he,q⟩:=h;cases rx;obtain⟨t,rfl⟩:=ry;obtain⟨its,r,pl,hz⟩:=I.tuple hq;obtain⟨j,h1,h2,h3,h4,h5⟩:=Mw he;obtain⟨w,ew,lW⟩:=r.get h2;have hl:=r.length;have hn:=jl;have fin:EP X pins σ Q w s:=⟨z,H,I,lW,q⟩;exact subscriptTail_builtinR (x:=w) pl.typeIs slot_tuple_getitem.lookup
  (getItem_tuple (j:=j) (Q:=fun r s' =>r=w/\EP X pins σ Q r s') pl (by omega) (by omega) (by rw[List.size_toArray,<- hl];exact h1) (by simpa using ew) ⟨rfl,fin⟩) hs
theorem z3e:Io X Dg:=by
 intro value slice pins s σ H x y v u Q I rx ry h hs;obtain⟨z,i,c,rfl,rfl,hz,he,q⟩:=h;obtain⟨t,rfl⟩:=rx;obtain⟨t',rfl⟩:=ry;obtain⟨j,h1,h2,h3,h4,h5⟩:=Mw he;have hl:z.cps.toList.length=z.length:=by simp [Str.length]
 rw[hl] at h1 h4 h5;have hn:=jl;exact tail_any (typeIs_str s z t) slot_str_getitem.lookup (getItem_str (c:=c) (by
  have e1:decide (i< -(2^63:Int))=false:=decide_eq_false (by omega)
  have e2:decide (i≥2^63)=false:=decide_eq_false (by omega)
  rw[e1,e2,Bool.or_false]) (by rw[h1];simpa using h2) ⟨.str ⟨#[c]⟩,H,I.tok _,⟨_,rfl⟩,q⟩) hs
def rIx(K:W.Frag):R2:=fun x y H Q=>Dd K x y H Q\/Df K x y H Q\/Dg x y H Q
theorem zrv(its:List Value)(n j:Nat)(u:Value):Obj.mapSeq (·.setIfInBounds j u) {cls:= .type "list",data:= .seq its.toArray n}={cls:= .type "list",data:= .seq (its.set j u).toArray n}:=by
 simp [Obj.mapSeq]
theorem Inv.lst{pins:bw}{σ:St}{H:Hp}{s:Shared}{p:Addr}{xs:List V}(I:Inv X pins σ H s)(h:H p=some (.lst xs)):
  ∃(its:List Value) (n:Nat),Vals xs its/\s.heap.get? p=some {cls:= .type "list",data:= .seq its.toArray n}/\xs.length<=sizeLine:=by
 obtain⟨z,its,n,r,e⟩:=I.hok p _ h;exact⟨its,n,r,e,z⟩
theorem Inv.lstUpd{pins:bw}{σ:St}{H:Hp}{s:Shared}{p:Addr}{xs ys:List V}{its its' :List Value}{n n' :Nat}{f:Obj ->Obj}(I:Inv X pins σ H s)(h:H p=some (.lst xs))
  (ho:s.heap.get? p=some {cls:= .type "list",data:= .seq its.toArray n}) (hf:f {cls:= .type "list",data:= .seq its.toArray n}={cls:= .type "list",data:= .seq its'.toArray n'}) (r:Vals ys its') (hz:ys.length<=sizeLine) (t:Nat):
  Inv X pins σ (upd H p (.lst ys)) {s with heap:=s.heap.update p f,toks:=t}:=by
 have e:(s.heap.update p f).get? p=some {cls:= .type "list",data:= .seq its'.toArray n'}:=by
  rw[Heap.get?_update_self f ho (by rw[hf]<;>rfl),hf]
 refine I.write (x:=p) (e:=p) (by rw[h];trivial) (.inl rfl) (fun b u hb q=>(Heap.get?_update_other _ _ (Ne.symm hb)).trans q) ⟨_,e⟩ ?_
 exact⟨hz,its',n',r,e⟩
def Dh:V ->V ->V ->Hp ->(Hp ->Prop) ->Prop:=fun o i v H Q=>∃p xs k j,o= .ref p/\i= .int k/\H p=some (.lst xs)/\ql xs.length k=some j/\Q (upd H p (.lst (xs.set j v)))
theorem zxj:Cw X Dh:=by
 intro pins s σ H o i v ov iv u Q I ro ri rv h;obtain⟨p,xs,k,j,rfl,rfl,hp,hj,q⟩:=h;cases ro;obtain⟨t,rfl⟩:=ri;obtain⟨its,n,r,ho,hz⟩:=I.lst hp;obtain⟨h1,h2,h3,h4⟩:=Vz hj;have hl:=r.length;have hn:=jl;have I' :Inv X pins σ (upd H p (.lst (xs.set j v))) {s with heap:=s.heap.update p (Obj.mapSeq (·.setIfInBounds j u))}:=
  I.lstUpd hp ho (zrv its n j u) (r.set rv j) (by rw[List.length_set];exact hz) s.toks
 by_cases h0:0<=k
 ·have hk:k.toNat=j:=by
   rw[seqIndex_of h0 h4] at h1;exact zF h1
  exact W.ki_setAt ho h0 (by omega) (by rw[List.size_toArray,<- hl];exact h4) (by rw[hk];exact⟨_,I',q⟩)
 ·have hk:(k+ (its.toArray.size:Int)).toNat=j:=by
   rw[seqIndex_neg (by omega) h3] at h1
   rw[List.size_toArray,<- hl];exact zF h1
  exact W.ki_setBack ho (by omega) (by rw[List.size_toArray,<- hl];exact h3) (by omega) (by rw[hk];exact⟨_,I',q⟩)
theorem zlu(lo hi:Option Int)(n:Nat):(sliceBounds lo hi none n).1=((HT.sIx n 0 lo:Nat):Int)/\ (sliceBounds lo hi none n).2.1=((HT.sIx n n hi:Nat):Int)/\ (sliceBounds lo hi none n).2.2=1:=by
 refine⟨?_,?_,rfl⟩
 ·cases lo with
  | none=>simp [sliceBounds,HT.sIx]
  | some i=>
   simp only [sliceBounds,HT.sIx,Option.getD_none,show(1:Int)>0 by decide,if_true]
   by_cases h:i<0
   ·simp only [h,if_true]<;>omega
   ·simp only [h,if_false]<;>omega
 ·cases hi with
  | none=>simp [sliceBounds,HT.sIx]
  | some i=>
   simp only [sliceBounds,HT.sIx,Option.getD_none,show(1:Int)>0 by decide,if_true]
   by_cases h:i<0
   ·simp only [h,if_true]<;>omega
   ·simp only [h,if_false]<;>omega
theorem zkh(its:List Value)(lo hi:Option Int):slicePick its.toArray lo hi none=((its.drop (HT.sIx its.length 0 lo)).take (HT.sIx its.length its.length hi - HT.sIx its.length 0 lo)).toArray:=by
 obtain⟨h1,h2,h3⟩:=zlu lo hi its.toArray.size;unfold slicePick;rw[h1,h2,h3];simp only [sliceRange_one,pick_run,List.size_toArray]<;>rfl
def Mz(K:W.Frag):V ->Option Int ->Option Int ->Hp ->VK ->Prop:=fun x lo hi H Q=>∃a xs,x= .ref a/\fO K H a xs/\∀p,H p=none ->Q (.ref p) (upd H p (.lst (oU xs lo hi)))
theorem z0s:Vx X (Mz X.K):=by
 intro pins s σ H x v vl vu lo hi sl Q I rx hs pl pu h;obtain⟨a,xs,rfl,hx,q⟩:=h;cases rx;obtain⟨its,r,ht,hz⟩:=I.list hx;have hlen:=r.length;refine⟨"list",_,slot_list_getitem.lookup,ht.isList.typeIs,?_⟩;refine wpAny_getItem_list_slice ht.isList hs pl pu .none (by simp) ?_ (by rw[List.size_toArray]<;>omega)
 rw[zkh,<- hlen];refine⟨.ref s.heap.objs.size,_,I.laid (t' :=s.toks) (o:= .lst (oU xs lo hi)) (fun b ob q=>zZ _ q) (zM _) ?_,rfl,q _ (I.hok.fresh (zM _))⟩;exact⟨zN (zoh xs lo hi) hz,_,0,(r.drop (HT.sIx xs.length 0 lo)).take (HT.sIx xs.length xs.length hi - HT.sIx xs.length 0 lo),zY _ rfl⟩
def gZ:V ->Bool
 | .non=>true
 | .bl _=>true
 | .int _=>true
 | .str _=>true
 | _=>false
def uU:V ->V ->Bool
 | .non,.non=>true
 | .bl a,.bl b=>a==b
 | .bl a,.int b=>(if a then 1 else 0)==b
 | .int a,.bl b=>a==(if b then 1 else 0)
 | .int a,.int b=>a==b
 | .str a,.str b=>a==b
 | _,_=>false
theorem z3v{A:Around}{s:Shared}{y x:V}{u v:Value}(ry:RelV y u)(rx:RelV x v)(fy:gZ y=true)(fx:gZ x=true):SeqAt.EqAt A s u v (uU y x):=by
 cases y with
 | non=>
  cases ry;cases x with
  | non=>cases rx;exact SeqAt.EqAt.same _
  | bl b=>cases rx;exact SeqAt.EqAt.none_bool b
  | int b=>obtain⟨t,rfl⟩:=rx;exact SeqAt.EqAt.none_int b t
  | str b=>obtain⟨t,rfl⟩:=rx;exact SeqAt.EqAt.none_str b t
  | _=>exact absurd (show false=true from fx) zH
 | bl a=>
  cases ry;cases x with
  | non=>cases rx;exact SeqAt.EqAt.bool_none a
  | bl b=>cases rx;exact SeqAt.EqAt.bool_bool a b
  | int b=>obtain⟨t,rfl⟩:=rx;exact SeqAt.EqAt.bool_int a b t
  | str b=>obtain⟨t,rfl⟩:=rx;exact SeqAt.EqAt.bool_str a b t
  | _=>exact absurd (show false=true from fx) zH
 | int a=>
  obtain⟨t',rfl⟩:=ry;cases x with
  | non=>cases rx;exact SeqAt.EqAt.int_none a t'
  | bl b=>cases rx;exact SeqAt.EqAt.int_bool a t' b
  | int b=>obtain⟨t,rfl⟩:=rx;exact SeqAt.EqAt.int_int a t' b t
  | str b=>obtain⟨t,rfl⟩:=rx;exact SeqAt.EqAt.int_str a t' b t
  | _=>exact absurd (show false=true from fx) zH
 | str a=>
  obtain⟨t',rfl⟩:=ry;cases x with
  | non=>cases rx;exact SeqAt.EqAt.str_none a t'
  | bl b=>cases rx;exact SeqAt.EqAt.str_bool a t' b
  | int b=>obtain⟨t,rfl⟩:=rx;exact SeqAt.EqAt.str_int a t' b t
  | str b=>obtain⟨t,rfl⟩:=rx;exact SeqAt.EqAt.str_str a t' b t
  | _=>exact absurd (show false=true from fx) zH
 | _=>exact absurd (show false=true from fy) zH
def uV(x:V)(u:Value):Bool:=match u with
 | .none=>uU .non x
 | .bool b=>uU (.bl b) x
 | .int i _=>uU (.int i) x
 | .str z _=>uU (.str z) x
 | _=>false
theorem VD{x y:V}{u:Value}(r:RelV y u)(f:gZ y=true):uV x u=uU y x:=by
 cases y with
 | non=>cases r;rfl
 | bl b=>cases r;rfl
 | int i=>obtain⟨t,rfl⟩:=r;rfl
 | str z=>obtain⟨t,rfl⟩:=r;rfl
 | _=>exact absurd (show false=true from f) zH
theorem MF{x:V}:∀{xs:List V} {us:List Value},Vals xs us ->xs.all gZ=true ->us.any (uV x)=xs.any fun y=>uU y x
 | _,_,.nil,_=>rfl
 | y::xs,u::us,.cons r t,f=>by
  rw[List.all_cons,Bool.and_eq_true] at f;rw[List.any_cons,List.any_cons,VD r f.1,MF t f.2]
theorem MJ{A:Around}{s:Shared}{x:V}{v:Value}(rx:RelV x v)(fx:gZ x=true):∀{xs:List V} {us:List Value},Vals xs us ->xs.all gZ=true ->∀u∈us,SeqAt.EqAt A s u v (uV x u)
 | _,_,.nil,_=>fun u hu=>by cases hu
 | y::xs,u::us,.cons r t,f=>fun u' hu=>by
  rw[List.all_cons,Bool.and_eq_true] at f;rcases zT.mp hu with rfl | hu
  ·rw[VD r f.1];exact z3v r rx f.1 fx
  ·exact MJ rx fx t f.2 u' hu
def inV(x:V)(xs:List V):Bool:=xs.any fun y=>uU y x
def rIn(K:W.Frag)(neg:Bool):R2:=fun x y H Q=>∃p xs,y= .ref p/\ (fO K H p xs\/iK K H p xs)/\gZ x=true/\xs.all gZ=true/\Q (.bl (if neg then !inV x xs else inV x xs)) H
theorem VF:gJ X (compareOp .In) (rIn X.K false):=by
 intro pins s σ H x y v u Q I rx ry h;obtain⟨p,xs,rfl,hq,fx,fs,q⟩:=h;cases ry;rcases hq with hq | hq
 ·obtain⟨its,r,pl,hz⟩:=I.list hq;refine SeqAt.in_listAt (uV x) pl.isList (fun w hw=>MJ rx fx r fs w (by simpa using hw)) ⟨.bl _,H,I,rfl,?_⟩
  rw[show its.toArray.any (uV x)=its.any (uV x) by simp,MF r fs]
  exact q
 ·obtain⟨its,r,pl,hz⟩:=I.tuple hq;refine SeqAt.in_tupleAt (uV x) pl (fun w hw=>MJ rx fx r fs w (by simpa using hw)) ⟨.bl _,H,I,rfl,?_⟩
  rw[show its.toArray.any (uV x)=its.any (uV x) by simp,MF r fs]
  exact q
theorem VG:cG X (.builtin "len") (fun xs H Q=>∃p ys,xs= [.ref p]/\ (fO X.K H p ys\/iK X.K H p ys)/\Q (.int ys.length) H):=by
 intro pins s σ H xs us Q I r h;obtain⟨p,ys,rfl,hq,q⟩:=h;obtain⟨u,rfl,rx⟩:=vals1 r;cases rx;have hn:=jl;rcases hq with hq | hq
 ·obtain⟨its,r',pl,hz⟩:=I.list hq;have hlen:=r'.length;exact Calls.call_len_list pl.isList (by simp only [List.size_toArray]<;>omega) ⟨.int ys.length,H,I.tok _,⟨s.toks+1,by rw[List.size_toArray,hlen]⟩,q⟩
 ·obtain⟨its,r',pl,hz⟩:=I.tuple hq;have hlen:=r'.length;exact len_tuple pl (by simp only [List.size_toArray]<;>omega) ⟨.int ys.length,H,I.tok _,⟨s.toks+1,by rw[List.size_toArray,hlen]⟩,q⟩
theorem zna:cG X (.builtin "len") (fun xs H Q=>∃z,xs= [.str z]/\z.length<=sizeLine/\Q (.int z.length) H):=by
 intro pins s σ H xs us Q I r h;obtain⟨z,rfl,hz,q⟩:=h;obtain⟨u,rfl,t,rfl⟩:=vals1 r;have hn:=jl;exact len_str (by omega) ⟨.int z.length,H,I.tok _,⟨_,rfl⟩,q⟩
theorem VH:cG X (.type "list") (fun xs H Q=>∃p ys,xs= [.ref p]/\ (fO X.K H p ys\/iK X.K H p ys)/\∀l,H l=none ->Q (.ref l) (upd H l (.lst ys))):=by
 intro pins s σ H xs us Q I r h;obtain⟨p,ys,rfl,hq,q⟩:=h;obtain⟨u,rfl,rx⟩:=vals1 r;cases rx;have fin:∀(its:List Value),Vals ys its ->ys.length<=sizeLine ->∀(h' :Heap) (c' :Nat),(∀b o',s.heap.get? b=some o' ->h'.get? b=some o') ->
   h'.get? s.heap.objs.size=some {cls:= .type "list",dict:=none,data:= .seq its.toArray c',slots:= #[]} ->EP X pins σ Q (.ref s.heap.objs.size) {s with heap:=h'}:=fun its r' hz h' c' kp e=>
  ⟨.ref s.heap.objs.size,_,I.laid (t' :=s.toks) kp (zM _) (show bB X.prog X.w _ h' _ (.lst ys) from ⟨hz,its,c',r',e⟩),rfl,q _ (I.hok.fresh (zM _))⟩
 rcases hq with hq | hq
 ·obtain⟨its,r',pl,hz⟩:=I.list hq;have hlen:=r'.length;obtain⟨o,ho,hc,n,hd⟩:=pl.isList;exact call_list_seq p (.inl rfl) ho hc hd (fun h' c' kp e=>fin its r' hz h' c' kp e) (by simp only [List.size_toArray]<;>omega)
 ·obtain⟨its,r',pl,hz⟩:=I.tuple hq;have hlen:=r'.length;obtain⟨o,ho,hc,n,hd⟩:=pl;exact call_list_seq p (.inr rfl) ho hc hd (fun h' c' kp e=>fin its r' hz h' c' kp e) (by simp only [List.size_toArray]<;>omega)
def Ip(K:W.Frag)(T:String)(x:V)(H:Hp):Prop:=match x with
 | .str _=>T= "str"
 | .int _=>T= "int"
 | .ref p=>(T= "list" /\∃xs,fO K H p xs)\/ (T= "tuple" /\∃o,K.lookup p=some o/\o.cls= .type "tuple" /\o.dict=none)\/
   (T= "dict" /\ ((∃kvs,H p=some (.dK kvs))\/∃kvs,H p=some (.dT kvs)))\/ (T= "set" /\∃S n,H p=some (.set S n))
 | _=>False
theorem z3w{pins:bw}{σ:St}{H:Hp}{s:Shared}{T:String}{x:V}{v:Value}(I:Inv X pins σ H s)(r:RelV x v)(ty:Ip X.K T x H):
  s.TypeIs v T/\∀a,v= .ref a ->∃ob,s.heap.get? a=some ob/\ob.dict=none:=by
 cases x with
 | str z=>
  obtain⟨t,rfl⟩:=r;cases (show T= "str" from ty);exact⟨typeIs_str s z t,fun _ e=>nomatch e⟩
 | int i=>
  obtain⟨t,rfl⟩:=r;cases (show T= "int" from ty);exact⟨typeIs_int s i t,fun _ e=>nomatch e⟩
 | ref p=>
  cases r;rcases ty with ⟨rfl,xs,hq⟩ | ⟨rfl,o,hk,hc,hd⟩ | ⟨rfl,hk⟩ | ⟨rfl,S,n,hk⟩
  ·obtain⟨its,_,pl,_⟩:=I.list hq;refine⟨pl.isList.typeIs,fun a e=> ?_⟩;cases e;obtain⟨o,n,e,c,hd,_⟩:=pl;exact⟨o,e,hd⟩
  ·refine⟨⟨o,I.kIn p o hk,hc⟩,fun a e=> ?_⟩;cases e;exact⟨o,I.kIn _ o hk,hd⟩
  ·have z:∃o,s.heap.get? p=some o/\o.ExactDict:=by
    rcases hk with ⟨kvs,hk⟩ | ⟨kvs,hk⟩
    ·obtain⟨_,_,_,_,o,_,_,e,ex,_⟩:=I.hok p _ hk;exact⟨o,e,ex⟩
    ·obtain⟨_,_,_,_,o,_,_,e,ex,_⟩:=I.hok p _ hk;exact⟨o,e,ex⟩
   obtain⟨o,e,ex⟩:=z;refine⟨⟨o,e,ex.1⟩,fun a e2=> ?_⟩;cases e2;exact⟨o,e,ex.2.1⟩
  ·obtain⟨o,_,_,_,e,ex,_⟩:=I.hok p _ hk;refine⟨⟨o,e,ex.1⟩,fun a e2=> ?_⟩;cases e2;exact⟨o,e,ex.2.1⟩
 | _=>exact False.elim ty
def aaA(K:W.Frag)(T:String)(r:V ->List V ->Hp ->VK ->Prop)(to:TE):TE:=fun σ H Q=>to σ H fun x H1=>Ip K T x H1/\r x [] H1 Q
def tBM(K:W.Frag)(T:String)(r:V ->List V ->Hp ->VK ->Prop)(to:TE)(t:TA):TE:=fun σ H Q=>to σ H fun x H1=>Ip K T x H1/\t σ H1 fun xs H2=>r x xs H2 Q
variable{o e:Expr}{es:List Expr}{to:TE}{t:TA}{name:Str}{apos cpos:Pos}{T id:String}{r:V ->List V ->Hp ->VK ->Prop}
theorem z47(pa:PlainAttrs T)(slot:Slot T name id)(hty:typeOf (.builtin id)=pure (.type "method_descriptor"))(hm:MtR X id r)(ho:PE X o to)(ha:PA X (e::es) t)
  (hbase:attributeBase o name X.env (eval o X.env)=eval o X.env:=by rfl)
  (hfew:((backTo cpos (starEach (e::es) X.env)).all (fun x=> !x.1)&&(backToKw cpos (keywordEach [] X.env)).all (fun x=>x.1.isSome)
   &&decide ((e::es).length+ ([]:List Keyword).length+ (if ([]:List Keyword).isEmpty then 0 else 1)<30))=true:=by rfl)
  (hline:(apos.endLine==cpos.line)=true:=by rfl) (hs:starEach (e::es) X.env=(false,eval e X.env)::starEach es X.env:=by rfl) (hplain:(backTo cpos (starEach es X.env)).any (·.1)=false:=by rfl):
  PE X (.Call (.Attribute o name apos) (e::es) [] cpos) (tBM X.K T r to t):=by
 intro pins s σ H Q I h;refine wpAny_Call_method_late hbase hfew hline rfl (bF (ho pins s σ H _ I h) fun v s1 MK=> ?_);obtain⟨x,H1,I1,r1,ty,q1⟩:=MK;obtain⟨h1,h2⟩:=z3w I1 r1 ty;refine⟨T,id,pa,slot,hty,h1,h2,?_⟩;have hA:=ha cpos pins s1 σ H1 _ I1 q1;rw[hs] at hA⊢;refine Calls.callWith_builtin (by show(false || (backTo cpos (starEach es X.env)).any (·.1))=false;rw[hplain]<;>rfl) (Calls.evalArgs_plain ?_)
 exact bF hA fun us s2 MN=>by obtain⟨vs,H2,I2,r2,q2⟩:=MN;exact hm pins s2 σ H2 x vs v us Q I2 r1 r2 q2
end
def MtM(X:Cx)(id:String)(r:V ->List V ->Hp ->VK ->Prop):Prop:=
 ∀(pins:bw) (s:Shared) (σ:St) (H:Hp) (x:V) (xs:List V) (v:Value) (us:List Value) (Q:VK),Inv X pins σ H s ->RelV x v ->Vals xs us ->r x xs H Q ->
  wpAny (model X.prog X.w) X.A (call (.builtin id) (v::us)) (EP X pins σ Q) X.xe s
theorem Vals.one:∀{x:V} {us:List Value},Vals [x] us ->∃u,us= [u]/\RelV x u
 | _,_,.cons r .nil=>⟨_,rfl,r⟩
theorem Vals.reverse{xs:List V}{us:List Value}(h:Vals xs us):Vals xs.reverse us.reverse:=by
 induction h with
 | nil=>exact .nil
 | cons r t ih=>rw[List.reverse_cons,List.reverse_cons];exact Vals.append ih (.cons r .nil)
section
variable{X:Cx}{pins:bw}{σ:St}{H:Hp}{s:Shared}{l b:Addr}{xs ys zs:List V}
theorem Inv.lset{its its' :List Value}{n:Nat}{f:Array Value ->Array Value}{t' :Nat}(I:Inv X pins σ H s)(hH:H l=some (.lst xs))
  (e:s.heap.get? l=some {cls:= .type "list",data:= .seq its.toArray n}) (hf:f its.toArray=its'.toArray) (hv:Vals ys its') (hz:ys.length<=sizeLine):
  Inv X pins σ (upd H l (.lst ys)) {s with heap:=s.heap.update l (Obj.mapSeq f),toks:=t'}:=by
 have q:=PySem.IsL.update e f;rw[hf] at q;refine I.write (x:=l) (e:=l) (by rw[hH];exact trivial) (.inl rfl) (fun b' u hb hu=>(Heap.get?_update_other s.heap (Obj.mapSeq f) (Ne.symm hb)).trans hu) ⟨_,q⟩ ?_
 exact⟨hz,its',_,hv,q⟩
theorem Inv.lnew{its:List Value}{t' :Nat}(I:Inv X pins σ H s)(hv:Vals ys its)(hz:ys.length<=sizeLine):
  Inv X pins σ (upd H s.heap.objs.size (.lst ys)) {s with heap:=s.heap.push {cls:= .type "list",data:= .seq its.toArray},toks:=t'}:=
 I.laid (fun _ _ q=>zZ _ q) (zM _) ⟨hz,its,0,hv,zY _ rfl⟩
theorem Inv.fresh(I:Inv X pins σ H s):H s.heap.objs.size=none:=I.hok.fresh (zM _)
theorem Inv.lstM(I:Inv X pins σ H s)(hH:H l=some (.lst xs)):xs.length<=sizeLine/\∃(its:List Value) (n:Nat),Vals xs its/\xs.length=its.length/\s.heap.get? l=some {cls:= .type "list",data:= .seq its.toArray n}:=by
 obtain⟨z,its,n,r,e⟩:=I.hok l _ hH;exact⟨z,its,n,r,r.length,e⟩
theorem zxc{n:Nat}(h:n<=sizeLine):Builtin.List.listTooLong n=false:=by
 unfold Builtin.List.listTooLong;exact decide_eq_false (by omega)
end
section
variable{X:Cx}
def z0b:V ->List V ->Hp ->VK ->Prop:=fun x vs H Q=>∃l xs y,x= .ref l/\vs= [y]/\H l=some (.lst xs)/\xs.length<sizeLine/\Q .non (upd H l (.lst (xs++ [y])))
theorem VJ:MtM X "list.append" z0b:=by
 intro pins s σ H x vs v us Q I rx rv h;obtain⟨l,xs,y,rfl,rfl,hH,hz,q⟩:=h;cases rx;obtain⟨u,rfl,ru⟩:=rv.one;obtain⟨z,its,n,r,hl,e⟩:=I.lstM hH;refine call_meets F.slot_list_append ⟨_,e,rfl⟩ F.entry_list_append (F.args_list_append_2 _ _) (PySem.list_append l its.toArray n u (by rw[List.size_toArray];omega)) ⟨e,?_⟩
 refine⟨.non,_,I.lset (its' :=its++ [u]) hH e (by simp) (r.append (.cons ru .nil)) ?_,rfl,q⟩
 rw[List.length_append,List.length_singleton];omega
def z5p:V ->List V ->Hp ->VK ->Prop:=fun x vs H Q=>∃l b xs zs,x= .ref l/\vs= [.ref b]/\H l=some (.lst xs)/\H b=some (.lst zs)/\xs.length+zs.length<=sizeLine/\Q .non (upd H l (.lst (xs++zs)))
def aaB:V ->List V ->Hp ->VK ->Prop:=fun x vs H Q=>∃l xs y,x= .ref l/\vs= []/\H l=some (.lst xs)/\xs[xs.length - 1]?=some y/\Q y (upd H l (.lst xs.dropLast))
def MP:V ->List V ->Hp ->VK ->Prop:=fun x vs H Q=>∃l xs i k y,x= .ref l/\vs= [.int i]/\H l=some (.lst xs)/\ -(2^63)<=i/\i<2^63/\seqIndex? i xs.length=some k/\xs[k]?=some y/\Q y (upd H l (.lst (xs.eraseIdx k)))
def z4t:V ->List V ->Hp ->VK ->Prop:=fun x vs H Q=>∃l xs,x= .ref l/\vs= []/\H l=some (.lst xs)/\Q .non (upd H l (.lst xs.reverse))
def M4:V ->List V ->Hp ->VK ->Prop:=fun x vs H Q=>∃l xs,x= .ref l/\vs= []/\H l=some (.lst xs)/\Q .non (upd H l (.lst []))
def aaC:R2:=fun x y H Q=>∃l b xs zs,x= .ref l/\y= .ref b/\H l=some (.lst xs)/\H b=some (.lst zs)/\xs.length+zs.length<=sizeLine/\∀p,H p=none ->Q (.ref p) (upd H p (.lst (xs++zs)))
def aaD:R2:=fun x y H Q=>∃l k xs,x= .ref l/\y= .int k/\H l=some (.lst xs)/\ -(2^63)<=k/\k<2^63/\xs.length*k.toNat<=sizeLine/\
 ∀p,H p=none ->Q (.ref p) (upd H p (.lst (List.replicate k.toNat xs).flatten))
end
section
variable{prog:Program}{w:World}{A:Around}{E:bG}{s:Shared}
end
section
variable{X:Cx}
end
section
variable{κ:Type}[DecidableEq κ]
def dF(kvs:List (κ×V))(k:κ):Option V:=(kvs.find? fun kv=>decide (kv.1=k)).map (·.2)
def putK(kvs:List (κ×V))(k:κ)(v:V):List (κ×V):=
 if (kvs.any fun kv=>decide (kv.1=k))=true then kvs.map (fun kv=>if kv.1=k then(kv.1,v) else kv) else kvs++ [(k,v)]
def pH(kvs:List (κ×V))(k:κ):List (κ×V):=kvs.filter fun kv=>decide (kv.1≠k)
theorem M5{p:κ×V}{r:List (κ×V)}{k:κ}(e:p.1=k):dF (p::r) k=some p.2:=by simp [dF,List.find?_cons,e]
theorem M6{p:κ×V}{r:List (κ×V)}{k:κ}(e:¬p.1=k):dF (p::r) k=dF r k:=by simp [dF,List.find?_cons,e]
theorem VL(k:κ):∀kvs:List (κ×V),(kvs.any fun kv=>decide (kv.1=k))=(dF kvs k).isSome
 | []=>rfl
 | p::r=>by
  rw[List.any_cons];by_cases e:p.1=k
  ·simp only [M5 e,decide_eq_true e,Bool.true_or,Option.isSome_some]
  ·rw[M6 e,decide_eq_false e,Bool.false_or];exact VL k r
theorem VN(kvs:List (κ×V))(k:κ)(v:V):(putK kvs k v).length<=kvs.length+1:=by
 unfold putK;split
 ·rw[List.length_map];omega
 ·rw[List.length_append,List.length_cons,List.length_nil];omega
theorem lK.fH{o:Option V}{u:Option Value}(r:lK o u):o.isSome=u.isSome:=by
 cases o with
 | none=>cases u with
  | none=>rfl
  | some _=>exact(show False from r).elim
 | some _=>cases u with
  | none=>exact(show False from r).elim
  | some _=>rfl
theorem KV.val{kvs:List (κ×V)}{vs:List (κ×Value)}(r:KV kvs vs)(k:κ):lK (dF kvs k) (valueAt vs k):=by
 unfold KV at r;induction r with
 | nil=>exact True.intro
 | @cons p q ps qs h t ih=>
  obtain⟨h1,h2⟩:=h;by_cases e:p.1=k
  ·have e' :q.1=k:=h1.symm.trans e;have b:valueAt (q::qs) k=some q.2:=by simp [valueAt,List.find?_cons,e']
   rw[M5 e,b];exact h2
  ·have e' :¬q.1=k:=fun z=>e (h1.trans z);have b:valueAt (q::qs) k=valueAt qs k:=by simp [valueAt,List.find?_cons,e']
   rw[M6 e,b];exact ih
theorem KV.any{kvs:List (κ×V)}{vs:List (κ×Value)}(r:KV kvs vs)(k:κ):(kvs.any fun kv=>decide (kv.1=k))=vs.any fun kv=>decide (kv.1=k):=by
 unfold KV at r;induction r with
 | nil=>rfl
 | cons h t ih=>rw[List.any_cons,List.any_cons,ih,h.1]
theorem KV.repl{kvs:List (κ×V)}{vs:List (κ×Value)}(r:KV kvs vs)(k:κ){y:V}{u:Value}(ry:RelV y u):
  KV (kvs.map fun kv=>if kv.1=k then(kv.1,y) else kv) (vs.map fun kv=>if kv.1=k then(kv.1,u) else kv):=by
 unfold KV at r⊢;induction r with
 | nil=>exact .nil
 | @cons p q ps qs h t ih=>
  rw[List.map_cons,List.map_cons];refine .cons ?_ ih;obtain⟨h1,h2⟩:=h;by_cases e:p.1=k
  ·rw[if_pos e,if_pos (h1.symm.trans e)];exact⟨h1,ry⟩
  ·rw[if_neg e,if_neg (fun z=>e (h1.trans z))];exact⟨h1,h2⟩
theorem KV.put{kvs:List (κ×V)}{vs:List (κ×Value)}(r:KV kvs vs)(k:κ){y:V}{u:Value}(ry:RelV y u):KV (putK kvs k y) (stored vs k u):=by
 unfold putK stored;rw[r.any k];by_cases e:(vs.any fun kv=>decide (kv.1=k))=true
 ·rw[if_pos e,if_pos e];exact r.repl k ry
 ·rw[if_neg e,if_neg e];exact Paired.snoc r ⟨rfl,ry⟩
theorem KV.length{kvs:List (κ×V)}{vs:List (κ×Value)}(r:KV kvs vs):kvs.length=vs.length:=Paired.length r
end
theorem Di{P:Program}{w:World}{k:Key}{u:Value}(r:RelV (kV k) u):(iJ P w).is k u=true:=by
 cases k with
 | inl i=>obtain⟨t,e⟩:=(show∃t,u=Value.int i t from r);subst e;exact zol P w i t
 | inr x=>obtain⟨t,e⟩:=(show∃t,u=Value.str x t from r);subst e;exact Ux P w x t
theorem VP{P:Program}{w:World}:∀{ks:List Key} {us:List Value},Vals (ks.map kV) us ->ItemsAre (iJ P w) ks us
 | [],_,r=>by rw[List.map_nil] at r;cases r;exact .nil
 | k::ks,_,r=>by
  rw[List.map_cons] at r;cases r with
  | cons h t=>exact .cons (Di h) (VP t)
abbrev KT(H:Hp):List (List Key×V) ->List (List Key×Addr×Value) ->Prop:=Paired fun p q=>p.1=q.1/\H q.2.1=some (.tup (p.1.map kV))/\RelV p.2 q.2.2
theorem KT.val{H:Hp}{kvs:List (List Key×V)}{xs:List (List Key×Addr×Value)}(r:KT H kvs xs)(k:List Key):lK (dF kvs k) ((atKey xs k).map (·.2)):=by
 induction r with
 | nil=>exact True.intro
 | @cons p q ps qs h t ih=>
  obtain⟨h1,_,h2⟩:=h;by_cases e:p.1=k
  ·have e' :q.1=k:=h1.symm.trans e;have b:atKey (q::qs) k=some q.2:=by simp [atKey,List.find?_cons,e']
   rw[M5 e,b];exact h2
  ·have e' :¬q.1=k:=fun z=>e (h1.trans z);have b:atKey (q::qs) k=atKey qs k:=by simp [atKey,List.find?_cons,e']
   rw[M6 e,b];exact ih
theorem KT.repl{H:Hp}{kvs:List (List Key×V)}{xs:List (List Key×Addr×Value)}(r:KT H kvs xs)(k:List Key){y:V}{u:Value}(ry:RelV y u):
  KT H (kvs.map fun kv=>if kv.1=k then(kv.1,y) else kv) (xs.map (putAt k u)):=by
 induction r with
 | nil=>exact .nil
 | @cons p q ps qs h t ih=>
  rw[List.map_cons,List.map_cons];refine .cons ?_ ih;obtain⟨h1,h2,h3⟩:=h;unfold putAt;by_cases e:p.1=k
  ·rw[if_pos e,if_pos (h1.symm.trans e)];exact⟨h1,h2,ry⟩
  ·rw[if_neg e,if_neg (fun z=>e (h1.trans z))];exact⟨h1,h2,h3⟩
theorem KT.put{H:Hp}{kvs:List (List Key×V)}{xs:List (List Key×Addr×Value)}(r:KT H kvs xs)(k:List Key){b:Addr}{y:V}{u:Value}(hb:H b=some (.tup (k.map kV)))(ry:RelV y u):
  KT H (putK kvs k y) (storedH xs k b u):=by
 have e:(kvs.any fun kv=>decide (kv.1=k))=(atKey xs k).isSome:=by
  rw[VL,(r.val k).fH,Option.isSome_map]
 unfold putK storedH;rw[e];by_cases q:(atKey xs k).isSome=true
 ·rw[if_pos q,if_pos q];exact r.repl k ry
 ·rw[if_neg q,if_neg q];exact Paired.snoc r ⟨rfl,hb,ry⟩
theorem KT.keeps{H H' :Hp}{kvs:List (List Key×V)}{xs:List (List Key×Addr×Value)}(r:KT H kvs xs)(ht:∀b ys,H b=some (.tup ys) ->H' b=some (.tup ys)):KT H' kvs xs:=
 Paired.mapP r fun _ _ z=>⟨z.1,ht _ _ z.2.1,z.2.2⟩
section
variable{P:Program}{w:World}{H:Hp}{h:Heap}{a:Addr}
theorem VR{u:HO}(ok:gR P w H h)(e:Rd H a u):bB P w H h a u:=e.ok ok
theorem um{kvs:List (Key×V)}(ok:gR P w H h)(e:Rd H a (.dK kvs)):kvs.length<=sizeLine/\ (a==sysModules)=false/\∃vs,KV kvs vs/\h.DictOf (iJ P w) a vs:=
 show bB P w H h a (.dK kvs) from VR ok e
theorem Dj{kvs:List (Key×V)}(ok:gR P w H h)(e:H a=some (.dK kvs)):kvs.length<=sizeLine/\ (a==sysModules)=false/\∃vs,KV kvs vs/\h.DictOf (iJ P w) a vs:=um ok (.inl e)
theorem Dl{ks:List Key}(ok:gR P w H h)(e:H a=some (.tup (ks.map kV))):(tupleKind (iJ P w)).is h ks a:=by
 obtain⟨_,its,r,o,h1,h2,n,h3⟩:=(show bB P w H h a (.tup (ks.map kV)) from ok a _ e);exact⟨o,its.toArray,n,h1,h2,h3,by simpa using VP r⟩
theorem Ac{kvs:List (List Key×V)}(ok:gR P w H h)(e:Rd H a (.dT kvs)):kvs.length<=sizeLine/\ (a==sysModules)=false/\
  ∃xs,KT H kvs xs/\h.DictOfH (tupleKind (iJ P w)) a xs:=by
 obtain⟨z,y,xs,r,o,es,ep,h1,h2,h3,h4,h5⟩:=(show bB P w H h a (.dT kvs) from VR ok e);refine⟨z,y,xs,r,o,es,ep,h1,h2,h3,h4,fun x hx=> ?_,h5⟩;have all:∀{l:List (List Key×V)} {m:List (List Key×Addr×Value)},KT H l m ->∀x∈m,(tupleKind (iJ P w)).is h x.1 x.2.1:=by
  intro l m q;induction q with
  | nil=>intro x hx;exact nomatch hx
  | @cons p q ps qs hq t ih=>
   intro x hx;rcases zT.mp hx with e | hx
   ·subst e;exact Dl ok (by rw[<- hq.1];exact hq.2.1)
   ·exact ih x hx
 exact all r x hx
theorem z5r{kvs:List (List Key×V)}(ok:gR P w H h)(e:H a=some (.dT kvs)):kvs.length<=sizeLine/\ (a==sysModules)=false/\
  ∃xs,KT H kvs xs/\h.DictOfH (tupleKind (iJ P w)) a xs:=Ac ok (.inl e)
end
def iB(H:Hp)(a:Addr)(y:V)(r:Option V):Prop:=
 (∃kvs k,Rd H a (.dK kvs)/\y=kV k/\r=dF kvs k)\/∃kvs k b,Rd H a (.dT kvs)/\y= .ref b/\H b=some (.tup (k.map kV))/\r=dF kvs k
def nA(H:Hp)(a:Addr)(y v:V)(H' :Hp):Prop:=
 (∃kvs k,H a=some (.dK kvs)/\y=kV k/\kvs.length<sizeLine/\H' =upd H a (.dK (putK kvs k v)))\/
 ∃kvs k b,H a=some (.dT kvs)/\y= .ref b/\H b=some (.tup (k.map kV))/\kvs.length<sizeLine/\H' =upd H a (.dT (putK kvs k v))
theorem iB.k{H:Hp}{a:Addr}{kvs:List (Key×V)}{k:Key}(e:H a=some (.dK kvs)):iB H a (kV k) (dF kvs k):= .inl ⟨kvs,k,.inl e,rfl,rfl⟩
theorem nA.k{H:Hp}{a:Addr}{kvs:List (Key×V)}{k:Key}{v:V}(e:H a=some (.dK kvs))(hl:kvs.length<sizeLine):nA H a (kV k) v (upd H a (.dK (putK kvs k v))):= .inl ⟨kvs,k,e,rfl,hl,rfl⟩
section
variable{X:Cx}{pins:bw}{σ:St}{H:Hp}{s:Shared}{a:Addr}{y v:V}{u r:Value}{o:Option V}{A:Around}{E:bG}
theorem Inv.big(I:Inv X pins σ H s):sysModules<s.heap.objs.size:=by
 have h:mainGlobals<s.heap.objs.size:=(I.mod.glob.keeps I.bk).lt;exact Nat.lt_trans (by decide) h
theorem zth{Q:bG}(hu:A.units+1<cLine)(I:Inv X pins σ H s)(g:iB H a y (some v))(ry:RelV y u)(h:∀w' s',Inv X pins σ H s' ->RelV v w' ->Q w' s'):
  wpAny (model X.prog X.w) A (getItem (.ref a) u) Q E s:=by
 rcases g with ⟨kvs,k,e,ey,l⟩ | ⟨kvs,k,b,e,ey,eb,l⟩
 ·subst ey;obtain⟨z,hd,vs,rel,dd⟩:=um I.hok e;obtain⟨w',hw,lW⟩:=lK.some_of (v:=v) (o:=valueAt vs k) (by rw[l];exact rel.val k)
  exact wpAny_getItem_of (Di ry) dd.mapOf hw (h w' _ (I.tok _) lW)
 ·subst ey;cases (show u=Value.ref b from ry);obtain⟨z,hd,xs,rel,dd⟩:=Ac I.hok e;obtain⟨w',hw,lW⟩:=lK.some_of (v:=v) (o:=(atKey xs k).map (·.2)) (by rw[l];exact rel.val k)
  obtain⟨p,hp,hp2⟩:=Option.map_eq_some_iff.mp hw;refine wpAny_getItem_heap (tupleKind_room_in1 hu) (Dl I.hok eb) dd hp ?_;rw[hp2];exact h w' _ (I.tok _) lW
theorem M7{Q:bG}(hu:A.units+1<cLine)(I:Inv X pins σ H s)(g:iB H a y o)(ry:RelV y u)(h:∀s',Inv X pins σ H s' ->Q (.bool o.isSome) s'):
  wpAny (model X.prog X.w) A (compareOp .In u (.ref a)) Q E s:=by
 rcases g with ⟨kvs,k,e,ey,l⟩ | ⟨kvs,k,b,e,ey,eb,l⟩
 ·subst ey;obtain⟨z,hd,vs,rel,dd⟩:=um I.hok e;refine wpAny_in_of (Di ry) hd dd.mapOf ?_;rw[<- (rel.val k).fH,<- l];exact h _ (I.tok _)
 ·subst ey;cases (show u=Value.ref b from ry);obtain⟨z,hd,xs,rel,dd⟩:=Ac I.hok e;refine wpAny_in_heap (tupleKind_room_in1 hu) (Dl I.hok eb) hd dd ?_;have q:=(rel.val k).fH;rw[Option.isSome_map] at q;rw[<- q,<- l];exact h _ (I.tok _)
theorem z06{Q:bG}(hu:A.units+1<cLine)(I:Inv X pins σ H s)(g:iB H a y o)(ry:RelV y u)(h:∀s',Inv X pins σ H s' ->Q (.bool (!o.isSome)) s'):
  wpAny (model X.prog X.w) A (compareOp .NotIn u (.ref a)) Q E s:=by
 rcases g with ⟨kvs,k,e,ey,l⟩ | ⟨kvs,k,b,e,ey,eb,l⟩
 ·subst ey;obtain⟨z,hd,vs,rel,dd⟩:=um I.hok e;refine wpAny_notIn_of (Di ry) hd dd.mapOf ?_;rw[<- (rel.val k).fH,<- l];exact h _ (I.tok _)
 ·subst ey;cases (show u=Value.ref b from ry);obtain⟨z,hd,xs,rel,dd⟩:=Ac I.hok e;refine wpAny_notIn_heap (tupleKind_room_in1 hu) (Dl I.hok eb) hd dd ?_;have q:=(rel.val k).fH;rw[Option.isSome_map] at q;rw[<- q,<- l];exact h _ (I.tok _)
theorem V0{h' :Heap}{t' :Nat}{ob:HO}(I:Inv X pins σ H s)(mu:Ca (H a))(hs:Heap.SameBut a s.heap h')(he:∃q,h'.get? a=some q)(new:bB X.prog X.w (upd H a ob) h' a ob):
  Inv X pins σ (upd H a ob) {s with heap:=h',toks:=t'}:=
 I.write (x:=a) (e:=a) mu (.inl rfl) (fun b q hb z=>(hs.2 b hb).trans z) he new
theorem z3z{P:Program}{w:World}{H' :Hp}{h' :Heap}{kvs:List (Key×V)}{vs:List (Key×Value)}(z:kvs.length<=sizeLine)(hd:(a==sysModules)=false)(rel:KV kvs vs)(dd:h'.DictOf (iJ P w) a vs):
  bB P w H' h' a (.dK kvs):=⟨z,hd,vs,rel,dd⟩
theorem ztg{H' :Hp}{Q:Unit ->Shared ->Prop}(hu:A.units+1<cLine)(I:Inv X pins σ H s)(g:nA H a y v H')(ry:RelV y u)(rv:RelV v r)(h:∀s',Inv X pins σ H' s' ->Q () s'):
  wpAny (model X.prog X.w) A (setItem (.ref a) u r) Q E s:=by
 rcases g with ⟨kvs,k,e,ey,l,eH⟩ | ⟨kvs,k,b,e,ey,eb,l,eH⟩
 ·subst ey eH;obtain⟨z,hd,vs,rel,dd⟩:=Dj I.hok e;have hz:vs.length<=sizeLine:=by rw[<- rel.length];exact z
  have hl:(putK kvs k v).length<=sizeLine:=by have:=VN kvs k v;omega
  refine wpAny_setItem_pairs (hsz:=hz) (Di ry) dd fun h' Dm hs=>h _ ?_;have he:∃q,h'.get? a=some q:=let ⟨q,_,_,hq,_⟩:=Dm;⟨q,hq⟩;exact V0 I (by rw[e];exact True.intro) hs he (z3z hl hd (rel.put k rv) Dm)
 ·subst ey eH;cases (show u=Value.ref b from ry);obtain⟨z,hd,xs,rel,dd⟩:=z5r I.hok e;have hz:xs.length<=sizeLine:=by rw[<- Paired.length rel];exact z
  have hl:(putK kvs k v).length<=sizeLine:=by have:=VN kvs k v;omega
  refine wpAny_setItem_heap (hsz:=hz) (tupleKind_room_in1 hu) (Dl I.hok eb) dd fun h' Dm hs=>h _ ?_;obtain⟨q,es,ep,hq,h2,h3,h4,_,h5⟩:=Dm;refine V0 I (by rw[e];exact True.intro) hs ⟨q,hq⟩ ⟨hl,hd,_,(rel.put k eb rv).keeps fun c ys ec=> ?_,q,es,ep,hq,h2,h3,h4,h5⟩
  rw[c7 (z5k ec e (fun z=>nomatch z))];exact ec
end
section
variable{X:Cx}{pins:bw}{σ:St}{H:Hp}{s:Shared}{a:Addr}{kvs:List (Key×V)}{k:Key}{u:Value}{A:Around}{E:bG}
theorem z5f{Q:bG}(I:Inv X pins σ H s)(e:Rd H a (.dK kvs))(h:∀t s',Inv X pins σ H s' ->Q (.int kvs.length t) s'):wpAny (model X.prog X.w) A (call (.builtin "len") [.ref a]) Q E s:=by
 obtain⟨z,hd,vs,rel,dd⟩:=um I.hok e;refine call_len_dict hd dd (by rw[<- rel.length];rw[sizeLine_eq] at z;omega) ?_
 rw[<- rel.length];exact h _ _ (I.tok _)
end
def uW(i:Expr):Prop:=∀ov iv,subscripted i false ov iv=operate [ov,iv] (getItem ov iv)
theorem z1i{prog:Program}{w:World}{A:Around}{E:bG}{s:Shared}{env:Env}{value slice:Expr}{pos:Pos}{T id:String}{Q:bG}
  (hl:typeLookup (.type T) "__getitem__" =pure (some (.builtin id))) (hs:uW slice)
  (h:wpAny (model prog w) A (eval value env) (fun o s₁=>wpAny (model prog w) A (eval slice env) (fun i s₂=>s₂.TypeIs o T/\wpAny (model prog w) A (getItem o i) Q E s₂) E s₁) E s):
  wpAny (model prog w) A (eval (.Subscript value slice pos) env) Q E s:=by
 refine Subscript_ (wpAny_mono h (fun o s₁ h₁=>wpAny_mono h₁ (fun i s₂ h₂=> ?_) fun _ _ x=>x) fun _ _ x=>x);obtain⟨hT,h₂⟩:=h₂;unfold subscriptTail;refine z6 ?_;rw[getitemInPython_of_ne hT.not_modules];refine z6 (wpAny_specialOf hT hl ?_);have fin:wpAny (model prog w) A (subscripted slice false o i) (fun r s₃=>wpAny (model prog w) A (letTemporaryGo value o r>>=fun _=>pure r) Q E s₃) E s₂:=by
  rw[hs o i];exact wpAny_operating (wpAny_mono h₂ (fun r s₃ h₃=>z6 (wpAny_letTemporaryGo (z7 h₃))) fun _ _ x=>x)
 first
  | exact z7 (z6 fin)
  | exact z6 (z7 (z6 fin))
  | exact z6 fin
theorem zor{X:Cx}{pins:bw}{σ:St}{H:Hp}{s:Shared}{a:Addr}{y:V}{o:Option V}(I:Inv X pins σ H s)(g:iB H a y o):s.TypeIs (.ref a) "dict" :=by
 rcases g with ⟨kvs,k,e,_,_⟩ | ⟨kvs,k,b,e,_,_,_⟩
 ·obtain⟨_,_,vs,_,dd⟩:=um I.hok e;exact dd.typeIs
 ·obtain⟨_,_,xs,_,dd⟩:=Ac I.hok e;exact dd.typeIs
def Dp(td ty:TE):TE:=fun σ H Q=>td σ H fun x H1=>ty σ H1 fun y H2=>∃a v,x= .ref a/\iB H2 a y (some v)/\Q v H2
def M8(ty td:TE):TE:=fun σ H Q=>ty σ H fun y H1=>td σ H1 fun x H2=>∃a o,x= .ref a/\iB H2 a y o/\Q (.bl o.isSome) H2
def z0n(ty td:TE):TE:=fun σ H Q=>ty σ H fun y H1=>td σ H1 fun x H2=>∃a o,x= .ref a/\iB H2 a y o/\Q (.bl (!o.isSome)) H2
def Dq(td ty tv:TE):TS:=fun D σ H=>tv σ H fun v H1=>td σ H1 fun x H2=>ty σ H2 fun y H3=>∃a H4,x= .ref a/\nA H3 a y v H4/\D.nx σ H4
def V1(td ty tv:TE)(rd:V ->V ->Hp ->VK ->Prop):TS:=fun D σ H=>td σ H fun x H1=>ty σ H1 fun y H2=>∃a v,x= .ref a/\iB H2 a y (some v)/\
 tv σ H2 fun y2 H3=>rd v y2 H3 fun z H4=>∃H5,nA H4 a y z H5/\D.nx σ H5
def V2(td ty:TE):TS:=fun D σ H=>td σ H fun x H1=>ty σ H1 fun y H2=>∃a kvs k,x= .ref a/\H2 a=some (.dK kvs)/\y=kV k/\ (dF kvs k).isSome=true/\D.nx σ (upd H2 a (.dK (pH kvs k)))
section
variable{X:Cx}{o i e value:Expr}{pos pos' tpos:Pos}{td ty tv:TE}
theorem V3(hu:X.A.units+1<cLine)(ho:PE X o td)(hi:PE X i ty)(hs:uW i):PE X (.Subscript o i pos) (Dp td ty):=by
 intro pins s σ H Q I h;refine z1i PySem.F.slot_dict_getitem.lookup hs (bF (ho pins s σ H _ I h) fun u s1 ⟨x,H1,I1,rx,q1⟩=>bF (hi pins s1 σ H1 _ I1 q1) fun iv s2 ⟨y,H2,I2,ry,a,v,ex,g,q2⟩=> ?_);subst ex;obtain rfl:u=Value.ref a:=rx;exact⟨zor I2 g,zth hu I2 g ry fun w' s3 I3 lW =>⟨v,H2,I3,lW,q2⟩⟩
theorem z2g(hu:X.A.units+1<cLine)(hi:PE X i ty)(ho:PE X o td):PC X .In i o (M8 ty td):=by
 intro pins s σ H Q I h;refine bF (hi pins s σ H _ I h) fun iv s1 ⟨y,H1,I1,ry,q1⟩=>bF (ho pins s1 σ H1 _ I1 q1) fun u s2 ⟨x,H2,I2,rx,a,ov,ex,g,q2⟩=> ?_;subst ex;obtain rfl:u=Value.ref a:=rx;exact M7 hu I2 g ry fun s3 I3=>⟨.bl ov.isSome,H2,I3,rfl,q2⟩
theorem zue(hu:X.A.units+1<cLine)(hi:PE X i ty)(ho:PE X o td):PC X .NotIn i o (z0n ty td):=by
 intro pins s σ H Q I h;refine bF (hi pins s σ H _ I h) fun iv s1 ⟨y,H1,I1,ry,q1⟩=>bF (ho pins s1 σ H1 _ I1 q1) fun u s2 ⟨x,H2,I2,rx,a,ov,ex,g,q2⟩=> ?_;subst ex;obtain rfl:u=Value.ref a:=rx;exact z06 hu I2 g ry fun s3 I3=>⟨.bl (!ov.isSome),H2,I3,rfl,q2⟩
theorem M9(hu:X.A.units+1<cLine)(ho:PE X o td)(hi:PE X i ty)(hv:PE X value tv)(hs:swapsWith value (some (.Subscript o i pos')) pos.line X.env=pure false):
  PS X (.Assign [.Subscript o i pos'] value pos) (Dq td ty tv):=by
 intro pins s σ H D I h;refine wpAny_Assign_Subscript (bF (hv pins s σ H _ I h) fun r s1 ⟨v,H1,I1,rv,q1⟩=>bF (ho pins s1 σ H1 _ I1 q1) fun u s2 ⟨x,H2,I2,rx,q2⟩=>bF (hi pins s2 σ H2 _ I2 q2) fun iv s3 ⟨y,H3,I3,ry,a,H4,ex,g,q3⟩=> ?_) hs;subst ex;obtain rfl:u=Value.ref a:=rx;exact ztg hu I3 g ry rv fun s4 I4=>⟨σ,H4,I4,q3⟩
end
theorem zw8{P:Program}{w:World}{H:Hp}(h:Heap)(hb:sysModules<h.objs.size):bB P w H (h.push {cls:= .type "dict",data:= .dict #[]}) h.objs.size (.dK []):=
 ⟨Nat.zero_le _,beq_eq_false_iff_ne.mpr (Ne.symm (zJ hb)),[],.nil,Heap.DictOf.new h⟩
def xu:TE:=fun _ H Q=>∀p,H p=none ->Q (.ref p) (upd H p (.dK []))
def Nb:TE:=fun _ H Q=>∀p,H p=none ->Q (.ref p) (upd H p (.dT []))
section
variable{X:Cx}{pos:Pos}
theorem zxg:PE X (.Dict [] [] pos) xu:=fun pins s σ H Q I h=>
 wpAny_Dict_empty ⟨.ref s.heap.objs.size,_,I.laid (a:=s.heap.objs.size) (o:= .dK []) (t' :=s.toks) (fun _ _ q=>zZ _ q) (zM _) (zw8 s.heap I.big),rfl,h _ (I.hok.fresh (zM _))⟩
end
def oV:List (TE×TE) ->St ->Hp ->(List (V×V) ->Hp ->Prop) ->Prop
 | [],_,H,Q=>Q [] H
 | (tk,tv)::r,σ,H,Q=>tk σ H fun x H1=>tv σ H1 fun y H2=>oV r σ H2 fun ps H3=>Q ((x,y)::ps) H3
abbrev VV:List (V×V) ->List (Value×Value) ->Prop:=Paired fun p q=>RelV p.1 q.1/\RelV p.2 q.2
def PPs(X:Cx)(pos:Pos)(keys:List (Option Expr))(values:List Expr)(Nf:List (TE×TE)):Prop:=
 ∀(pins:bw) (s:Shared) (σ:St) (H:Hp) (Q:List (V×V) ->Hp ->Prop),Inv X pins σ H s ->oV Nf σ H Q ->
  wpAny (model X.prog X.w) X.A (evalPairs (pairTrees keys values X.env pos)) (fun vs s' =>∃ps H',Inv X pins σ H' s' /\VV ps vs/\Q ps H') X.xe s
def xG(kvs more:List (Key×V)):List (Key×V):=more.foldl (fun acc kv=>putK acc kv.1 kv.2) kvs
def V4(Nf:List (TE×TE)):TE:=fun σ H Q=>∀p,H p=none ->oV Nf σ (upd H p (.dK [])) fun ps H2=>H2 p=some (.dK [])/\∃kvs:List (Key×V),ps=kvs.map (fun kv=>(kV kv.1,kv.2))/\kvs.length<=15/\Q (.ref p) (upd H2 p (.dK (xG [] kvs)))
structure M1 (X:Cx) (o:Expr) (m:Str) (apos:Pos) (e:Expr) (cpos:Pos):Prop where
 base:attributeBase o m X.env (eval o X.env)=eval o X.env
 few:((backTo cpos (starEach [e] X.env)).all (fun x=> !x.1)&&(backToKw cpos (keywordEach [] X.env)).all (fun x=>x.1.isSome)
  &&decide (([e]:List Expr).length+ ([]:List Keyword).length+ (if ([]:List Keyword).isEmpty then 0 else 1)<30))=true
 line:(apos.endLine==cpos.line)=true
 trees:backTo cpos (starEach [e] X.env)= [(false,eval e X.env)]
structure M2 (X:Cx) (o:Expr) (m:Str) (apos:Pos) (e f:Expr) (cpos:Pos):Prop where
 base:attributeBase o m X.env (eval o X.env)=eval o X.env
 few:((backTo cpos (starEach [e,f] X.env)).all (fun x=> !x.1)&&(backToKw cpos (keywordEach [] X.env)).all (fun x=>x.1.isSome)
  &&decide (([e,f]:List Expr).length+ ([]:List Keyword).length+ (if ([]:List Keyword).isEmpty then 0 else 1)<30))=true
 line:(apos.endLine==cpos.line)=true
 trees:backTo cpos (starEach [e,f] X.env)= [(false,eval e X.env),(false,eval f X.env)]
def Ad(H:Hp)(a:Addr):Prop:=(∃kvs,Rd H a (.dK kvs))\/∃kvs,Rd H a (.dT kvs)
theorem V5{X:Cx}{pins:bw}{σ:St}{H:Hp}{s:Shared}{a:Addr}(I:Inv X pins σ H s)(d:Ad H a):
  s.TypeIs (.ref a) "dict" /\ (∀b,Value.ref a= .ref b ->∃ob,s.heap.get? b=some ob/\ob.dict=none)/\ (a==sysModules)=false:=by
 rcases d with ⟨kvs,e⟩ | ⟨kvs,e⟩
 ·obtain⟨_,hd,vs,_,dd⟩:=um I.hok e;refine⟨dd.typeIs,fun b q=> ?_,hd⟩;cases q;obtain⟨ob,_,_,h1,h2,_⟩:=dd;exact⟨ob,h1,h2.2.1⟩
 ·obtain⟨_,hd,xs,_,dd⟩:=Ac I.hok e;refine⟨dd.typeIs,fun b q=> ?_,hd⟩;cases q;obtain⟨ob,_,_,h1,h2,_⟩:=dd;exact⟨ob,h1,h2.2.1⟩
section
variable{X:Cx}{pins:bw}{σ:St}{H:Hp}{s:Shared}{a:Addr}{y d:V}{u r:Value}{o:Option V}{A:Around}{E:bG}
end
def Ng(td ty:TE):TE:=fun σ H Q=>td σ H fun x H1=>∃a,x= .ref a/\Ad H1 a/\ty σ H1 fun y H2=>∃o,iB H2 a y o/\Q (o.getD .non) H2
def Nh(td ty tx:TE):TE:=fun σ H Q=>td σ H fun x H1=>∃a,x= .ref a/\Ad H1 a/\ty σ H1 fun y H2=>tx σ H2 fun z H3=>∃o,iB H3 a y o/\Q (o.getD z) H3
def Ni(td ty:TE):TE:=fun σ H Q=>td σ H fun x H1=>∃a,x= .ref a/\Ad H1 a/\ty σ H1 fun y H2=>∃kvs k v,H2 a=some (.dK kvs)/\y=kV k/\dF kvs k=some v/\Q v (upd H2 a (.dK (pH kvs k)))
def Nj(td ty tx:TE):TE:=fun σ H Q=>td σ H fun x H1=>∃a,x= .ref a/\Ad H1 a/\ty σ H1 fun y H2=>tx σ H2 fun z H3=>∃kvs k,H3 a=some (.dK kvs)/\y=kV k/\
 (∀v,dF kvs k=some v ->Q v (upd H3 a (.dK (pH kvs k))))/\ (dF kvs k=none ->Q z H3)
section
variable{X:Cx}{o e f:Expr}{apos cpos:Pos}{td ty tx:TE}
end
section
variable{X:Cx}{pins:bw}{σ:St}{H:Hp}{s:Shared}{a:Addr}{kvs:List (Key×V)}{A:Around}{E:bG}
end
section
variable{X:Cx}{pins:bw}{σ:St}{H:Hp}{s:Shared}{a:Addr}{y:V}{u:Value}{A:Around}{E:bG}
end
end L2
namespace V6
open PySem PySem.W PySem.Calls PyProof.Rows
theorem zig{P:Params}{h:Heap}:∀(ns:List Int) (vs:List Value),WellAll P h vs (ns.map WData.int) ->IntsAre vs ns:=by
 intro ns;induction ns with
 | nil=>
  intro vs w;rw[List.map_nil] at w;cases w;exact .nil
 | cons n ns ih=>
  intro vs w;rw[List.map_cons] at w;cases w with
  | cons a b=>
   cases a;exact .cons _ _ (ih _ b)
theorem zuq{l:OpenLaw}{n:Nat}(hn:l.most=some n){P:Params}{h:Heap}{args:List WData}{vals:List Value}
  (hpre:l.row.toRowW.claim.pre args=true) (hwl:WellAll P h vals args):
  ∃a vs ns,vals= [Value.ref a]/\args= [WData.list (ns.map WData.int)]/\h.get? a=some {cls:= .type "list",data:= .seq vs.toArray}/\IntsAre vs ns/\ns.length<=n:=by
 have hsh:WShape.hasAll [] args [.list .int]=true:=(pre_splitW hpre).1;have hc:l.pre.holds [] {args:=args}=true:=(pre_splitW hpre).2;obtain⟨d,r,rfl,h1,h2⟩:=hasAllW_cons hsh;obtain rfl:=hasAllW_nil h2;obtain⟨xs,rfl,h3⟩:=hasW_list h1;obtain⟨ns,rfl⟩:=items_int h3;have hlen:ns.length<=n:=by
  unfold OpenLaw.pre at hc;have h4:(WTm.not (.lt (.lit (.int (n:Int))) (.len (.arg 0)))).holds [] {args:= [.list (ns.map .int)]}=true:=by
   have h4:=(holds_andW hc).1;rw[hn] at h4;exact h4
  have h5:=condW_of h4 (w_not (w_lt w_lit (w_len_list (w_arg rfl))));rw[List.length_map] at h5;refine Nat.le_of_not_lt fun q=> ?_;have q' :(n:Int)< ((ns.length:Nat):Int):=by omega
  first
   | (rw[decide_eq_true q'] at h5;exact absurd h5 (by decide))
   | (simp at h5;omega)
 cases hwl with
 | cons w1 w2=>
  cases w2;cases w1 with
  | list ho hall=>exact⟨_,_,ns,rfl,rfl,ho,zig ns _ hall,hlen⟩
theorem zs7(l:OpenLaw)(args:List WData):l.row.toRowW.claim.post args (.bool true) args=true:=
 postW_of (r:=l.row.toRowW) (X:=(true==true))
  (show WShape.has [] (.bool true) .bool=true by first | rfl | decide | simp [WShape.has,WShape.arms,WShape.armsAll])
  (show(WTm.eq .res (.lit (.bool true))).value [] {args:=args,res:=some (.bool true),after:=args}=some (.bool (true==true)) from w_eq_bool (w_res rfl) w_lit) rfl
theorem nC{l:OpenLaw}{n:Nat}{q:Program}{loose:List Str}{XP:(Str ->Option Value) ->Heap ->Prop}{YP:World ->Heap ->Prop}{d:DefRec}
  (hn:l.most=some n) (hdf:d.params.defaults= [])
  (call:∀(w:World) (s₀ s₁:Shared) (mg mb:Str ->Option Value) (fa:Addr) (o:Obj) (pm cd doc:Value) (a:Addr) (vs:List Value) (ns:List Int),
   Ground q loose [] XP w s₀ mg mb s₁.heap ->YP w s₁.heap ->
   s₁.heap.get? fa=some o ->o.data= .func (docDef d.name d.params d.body d.scope pm cd doc) ->s₁.heap.CodeRec cd d.name ->mg d.name=some (.ref fa) ->
   s₁.heap.get? a=some {cls:= .type "list",data:= .seq vs.toArray} ->IntsAre vs ns ->ns.length<=n ->s₁.gens= #[] ->
   codeAny (model l.prog w) callerA (.call (.ref fa) ⟨[.ref a],[]⟩) (fun r s' =>r= .ok (.ret (.bool true))/\OldK s₁.heap s'.heap/\s'.os=s₁.os/\AllBare s'.gens) s₁):
  WalkO q loose XP YP l.row.toRowW d [] (fun f vs=>PySem.call f vs):=by
 intro w s₀ s₁ mg mb G Y fa o pm cd doc dV kV ho hd hcd hD hmg hg args vals as hpre hlay hrd hwl hlo;obtain rfl:dV= .none:=Dflts.none hD hdf;obtain rfl:kV= .none:=Dflts.noKw hD;obtain⟨a,vs,ns,rfl,rfl,hobj,hints,hlen⟩:=zuq hn hpre hwl;refine enter_call (codeAny_mono (call w s₀ s₁ mg mb fa o pm cd doc a vs ns G Y ho (fd_plain hd) hcd hmg hobj hints hlen hg) fun r s' hq=> ?_);obtain⟨rfl,h2,h3,h4⟩:=hq;exact⟨.inl ⟨.bool true,.bool true,[],rfl,fun _=>rfl,.bool true,zs7 l _,fun _=>⟨List.Pairwise.nil,fun _ hm=>(nomatch hm)⟩⟩,h2,h3,h4⟩
section
variable{prog:Program}{w:World}{A:Around}{E:bG}{s:Shared}{K:Frag}
def Nk(h:Heap):Heap:={h with objs:= #[]}
def ledger(h:Heap)(L d:Addr):bw:=(List.range h.objs.size).filterMap fun a=>if a=L\/a=d then none else(h.get? a).map fun o=>(a,o)
end
end V6
namespace L2
open PySem PySem.Spec PyProof.Rows
theorem V7:∀{vs:List Value} {ns:List Int},IntsAre vs ns ->Vals (ns.map V.int) vs
 | _,_,.nil=> .nil
 | _,_,.cons n t h=> .cons ⟨t,rfl⟩ (V7 h)
def Only(H:Hp):Prop:=∀b,H b=none\/∃o xs,H b=some (.frz o (.lst xs))
theorem zwh{P:Program}{w:World}{K:W.Frag}{mg mb:Str ->Option Value}{CX:qj}{k:Nat}{fa a:Addr}{fd:FuncData}{x:Str}{sp:Sp}{s₁:Shared}{vs:List Value}{ns:List Int}
  (KX:K.In s₁.heap) (hns:s₁.heap.Ns mainGlobals mg) (hb:s₁.heap.Ns builtinsNs mb) (hbb:∀x:Str,x≠ "__name__" ->mb x=bootBuiltins x) (hlim:s₁.heap.NoLimit) (hg:s₁.gens= #[])
  (ha:s₁.heap.get? a=some {cls:= .type "list",data:= .seq vs.toArray}) (hi:IntsAre vs ns) (hl:ns.length<=sizeLine) (hr:eU k callerA)
  (F:∀base:Heap,K.In base ->base.Ns mainGlobals mg ->d7 P w K mg base CX k fa fd [x] sp) (hbind:∀(s:Shared) (u:Value),BindsTo s fd ⟨[u],[]⟩ [(x,u)])
  (hsp:∀H:Hp,Only H ->fO K H a (ns.map V.int) ->sp [.ref a] H (fun v _=>v= .bl true) fun _ _ _=>False)
  (Nm:∀H e s',CX [] H s₁ (fun _ _ _=>False) e s' ->False):
  codeAny (model P w) callerA (.call (.ref fa) ⟨[.ref a],[]⟩) (fun r s' =>r= .ok (.ret (.bool true))/\OldK s₁.heap s'.heap/\s'.os=s₁.os/\AllBare s'.gens) s₁:=by
 have rv:=V7 hi;have lenV:=hi.length
 
 have core:∀H:Hp,Only H ->fO K H a (ns.map V.int) ->gR P w H s₁.heap ->(∀b,H b≠none ->b=a) ->(H a≠none ->K.lookup a=none) ->
   codeAny (model P w) callerA (.call (.ref fa) ⟨[.ref a],[]⟩) (fun r s' =>r= .ok (.ret (.bool true))/\OldK s₁.heap s'.heap/\s'.os=s₁.os/\AllBare s'.gens) s₁:=by
  intro H hO hS hok hA hK;have pI:∀{b:Addr} {o:Obj},s₁.heap.get? b=some o ->H b=none ->(mJ s₁.heap H).get? b=some o:=fun e n=>zxf e n;have CW:∀{b:Addr} {o:Obj} {es:Array DictEntry} {ep:Nat},s₁.heap.get? b=some o ->o.data= .dict es ep ->H b=none:=fun{b o es ep} e d=>by
   cases q:H b with
   | none=>rfl
   | some u=>
    have e' :b=a:=hA b (by rw[q];simp)
    subst e';rw[ha] at e;cases e;have d' :Data.seq vs.toArray _=Data.dict es ep:=d;cases d'
  have Ir:∀{b:Addr} {m:Str ->Option Value},s₁.heap.Ns b m ->(mJ s₁.heap H).Ns b m:=fun{b m} Dr=>by obtain⟨o,es,ep,e,d,r⟩:=Dr;exact⟨o,es,ep,pI e (CW e d),d,r⟩
  have V8:K.In (mJ s₁.heap H):=fun b o e=>pI (KX b o e) (by
   cases q:H b with
   | none=>rfl
   | some u=>
    have e' :b=a:=hA b (by rw[q];simp)
    subst e';rw[hK (by rw[q];simp)] at e;cases e)
  have hM:Mod K mg (mJ s₁.heap H):=⟨V8,Ir hns,⟨mb,Ir hb,hbb⟩,let ⟨mc,h1,h2⟩:=hlim;⟨mc,Ir h1,h2⟩⟩;have e0:uR P w K mg (mJ s₁.heap H) callerA [] s₁ H:=⟨rfl,hM,fun b o e=>z0u e,Nat.le_of_eq (zv1 _ _),trivial,fun b hb=>absurd (show b∈ ([]:List Addr) from hb) (by simp),hok,.of_eq hg⟩
  refine codeAny_mono ((F _ V8 (Ir hns)).run callerA [] s₁ H ⟨[.ref a],[]⟩ [.ref a] [.ref a] _ _ hr e0 (hbind s₁ (.ref a)) (.cons rfl .nil) (hsp H hO hS)) fun r s' h=> ?_;cases r with
  | error e=>exact(Nm H e s' h).elim
  | ok fl=>
   cases fl with
   | next=>exact False.elim h
   | brk=>exact False.elim h
   | cont=>exact False.elim h
   | ret u=>
    obtain⟨v,H',os,bare,un,hok',r',q⟩:=h;have q' :v= .bl true:=q;subst q';obtain rfl:u=Value.bool true:=r';refine⟨rfl,OldK.of_keep fun b o e=> ?_,os,bare⟩;cases q:H b with
    | none=>exact un.keep b o e q (by intro z;exact absurd (show b∈ ([]:List Addr) from z) (by simp)) (by simp)
    | some u=>
     rcases hO b with z | ⟨ob,xs,z⟩
     ·rw[q] at z;cases z
     ·have z2:=un.lM b ob _ z;obtain⟨e1,_⟩:=hok b _ z;obtain⟨e2,_⟩:=hok' b _ z2;rw[e] at e1;cases e1;exact e2
 cases hk:K.lookup a with
 | some o=>
  
  have e:=KX a o hk;rw[ha] at e;cases e;refine core (fun _=>none) (fun _=> .inl rfl) (.inr ⟨_,vs.toArray,_,hk,rfl,rfl,rfl,by rw[List.size_toArray,lenV];exact hl,by simpa using rv⟩) (fun b u z=>by have z' :(none:Option HO)=some u:=z;cases z') (fun b z=>absurd rfl z) fun z=>absurd rfl z
 | none=>
  refine core (fun b=>if b=a then some (.frz {cls:= .type "list",data:= .seq vs.toArray} (.lst (ns.map V.int))) else none) (fun b=> ?_) (.inl (.inr ⟨{cls:= .type "list",data:= .seq vs.toArray},if_pos rfl⟩)) (fun b u z=> ?_) (fun b z=> ?_) fun _=>hk
  ·by_cases hb:b=a
   ·exact .inr ⟨_,_,if_pos hb⟩
   ·exact .inl (if_neg hb)
  ·by_cases hb:b=a
   ·have z' :=(if_pos hb).symm.trans z;cases z';subst hb;exact⟨ha,by rw[List.length_map];exact hl,vs,_,rv,ha⟩
   ·have z' :=(if_neg hb).symm.trans z;cases z'
  ·by_cases hb:b=a
   ·exact hb
   ·exact absurd (if_neg hb) z
abbrev KOf{K:W.Frag}{h:Heap}(_:K.In h):W.Frag:=K
def z4y(s:Stmt)(j:Nat):Stmt:=match s with
 | .ClassDef _ _ _ body _ _ _ _ _ _ _=>body.getD j (.Pass ⟨0,0,0,0⟩)
 | _=> .Pass ⟨0,0,0,0⟩
def uX(s:Stmt):Arguments:=match s with
 | .FunctionDef _ a _ _ _ _ _ _ _ _=>a
 | _=>{posonlyargs:= [],args:= [],vararg:=none,kwonlyargs:= [],kw_defaults:= [],kwarg:=none,defaults:= []}
def rG(s:Stmt):List Stmt:=match s with
 | .FunctionDef _ _ b _ _ _ _ _ _ _=>b
 | _=> []
def bM(s:Stmt):Scope:=match s with
 | .FunctionDef _ _ _ _ _ _ sc _ _ _=>sc
 | _=>{kind:= .function,names:= [],isGenerator:=false,isCoroutine:=false}
abbrev CX0:qj:=fun _ _ _ _ _ _=>False
abbrev E0:XK:=fun _ _ _=>False
structure fK (K:W.Frag) (x qual:Str) (st:Stmt) (f:Addr) (fd:FuncData):Prop where
 ex:∃(oc:Value) (od:Option Addr) (kV doc pm:Value) (an:Option Addr) (cdv ct:Value) (osl:Array (Option Value)),
  fd=W.fnOf x qual (uX st) (rG st) (bM st) .none kV doc pm an cdv ct/\K.lookup f=some ⟨oc,od,.func fd,osl⟩/\W.codeIn K cdv qual=true
 kp:W.keepIn K (.ref f)=true
section
variable{P:Program}{w:World}{K:W.Frag}{mg:Str ->Option Value}{base:Heap}
theorem fK.binds{x qual:Str}{st:Stmt}{f:Addr}{fd:FuncData}{ps:List Str}(F:fK K x qual st f fd)
  (h:∀(kV doc pm:Value) (an:Option Addr) (cdv ct:Value) (us:List Value),us.length=ps.length ->bindArgs (W.fnOf x qual (uX st) (rG st) (bM st) .none kV doc pm an cdv ct) ⟨us,[]⟩=pure (ps.zip us)):Binds K fd ps []:=by
 obtain⟨oc,od,kV,doc,pm,an,cdv,ct,osl,rfl,lk,hcd⟩:=F.ex;exact .all (h kV doc pm an cdv ct)
end
section
variable{X:Cx}
end
def Same(H H' :Hp):Prop:=∀b o,H b=some o ->H' b=some o
theorem Same.refl(H:Hp):Same H H:=fun _ _ h=>h
theorem Same.trans{H H1 H2:Hp}(a:Same H H1)(b:Same H1 H2):Same H H2:=fun c o h=>b c o (a c o h)
theorem Same.free{H H' :Hp}(e:Same H H'){l:Addr}(h:H' l=Option.none):H l=Option.none:=by
 cases q:H l with
 | none=>rfl
 | some o=>
  rw[e l o q] at h;cases h
theorem Same.seq{K:W.Frag}{H H' :Hp}{a:Addr}{xs:List V}(e:Same H H')(h:fO K H a xs):fO K H' a xs:=by
 rcases h with (h | ⟨o,h⟩) | h
 ·exact .inl (.inl (e _ _ h))
 ·exact .inl (.inr ⟨o,e _ _ h⟩)
 ·exact .inr h
section
variable{X:Cx}
end
section
variable{κ:Type}[DecidableEq κ]
end
end L2
namespace L3
open PySem PySem.Spec PyProof.Rows L2
abbrev St:=L2.St
inductive D where
 | non | bl (b:Bool) | int (i:Int) | str (x:Str) | tup (xs:List D) | lst (xs:List D) | exc (C:Addr) | ptr (a:Addr)
 | obj (C:Addr) (fs:List Str) (xs:List D) | dic (ks:List Key) (xs:List D) | gK (ks:List (List Key)) (xs:List D) | dik (ks:List Key) (xs:List D)
def Ds(a C:Addr):HO:= .ext fun h=>∃o vs,h.get? a=some o/\o.cls= .ref C/\o.data= .fields vs/\vs[2]?=some Value.none
def Np(F:Hp)(a:Addr):Prop:=∃o C,F a=some (.frz o (Ds a C))
mutual
def Rep(K:W.Frag)(F:Hp):D ->V ->Prop
 | .non,v=>v= .non
 | .bl b,v=>v= .bl b
 | .int i,v=>v= .int i
 | .str x,v=>v= .str x
 | .tup ds,v=>∃a vs,v= .ref a/\iK K F a vs/\ak K F ds vs
 | .lst ds,v=>∃a vs,v= .ref a/\fO K F a vs/\ak K F ds vs
 | .exc C,v=>∃a o,v= .ref a/\F a=some (.frz o (Ds a C))
 | .ptr a,v=>v= .ref a
 | .obj C fs ds,v=>∃a dx vs,v= .ref a/\F a=some (.ins C dx (fs.zip vs))/\fs.length=vs.length/\ak K F ds vs
 | .dic ks ds,v=>∃a vs,v= .ref a/\F a=some (.dK (ks.zip vs))/\ks.length=vs.length/\ak K F ds vs
 | .gK ks ds,v=>∃a vs,v= .ref a/\F a=some (.dT (ks.zip vs))/\ks.length=vs.length/\ak K F ds vs
 | .dik ks ds,v=>∃a o vs,v= .ref a/\F a=some (.frz o (.dK (ks.zip vs)))/\ks.length=vs.length/\ak K F ds vs
def ak(K:W.Frag)(F:Hp):List D ->List V ->Prop
 | [],vs=>vs= []
 | d::ds,vs=>∃v r,vs=v::r/\Rep K F d v/\ak K F ds r
end
theorem lH{K:W.Frag}{H H' :Hp}{a:Addr}{xs:List V}(e:Same H H')(h:iK K H a xs):iK K H' a xs:=by
 rcases h with (h | ⟨o,h⟩) | h
 ·exact .inl (.inl (e _ _ h))
 ·exact .inl (.inr ⟨o,e _ _ h⟩)
 ·exact .inr h
mutual
theorem V9{K:W.Frag}{F F' :Hp}(e:Same F F'):∀(d:D) (v:V),Rep K F d v ->Rep K F' d v
 | .non,_,h=>by unfold Rep at h⊢;exact h
 | .bl _,_,h=>by unfold Rep at h⊢;exact h
 | .int _,_,h=>by unfold Rep at h⊢;exact h
 | .str _,_,h=>by unfold Rep at h⊢;exact h
 | .tup ds,_,h=>by
  unfold Rep at h⊢;obtain⟨a,vs,h0,h1,h2⟩:=h;exact⟨a,vs,h0,lH e h1,vN e ds vs h2⟩
 | .lst ds,_,h=>by
  unfold Rep at h⊢;obtain⟨a,vs,h0,h1,h2⟩:=h;exact⟨a,vs,h0,e.seq h1,vN e ds vs h2⟩
 | .ptr _,_,h=>by unfold Rep at h⊢;exact h
 | .exc C,_,h=>by
  unfold Rep at h⊢;obtain⟨a,o,h0,h1⟩:=h;exact⟨a,o,h0,e _ _ h1⟩
 | .obj C fs ds,_,h=>by
  unfold Rep at h⊢;obtain⟨a,dx,vs,h0,h1,h3,h4⟩:=h;exact⟨a,dx,vs,h0,e _ _ h1,h3,vN e ds vs h4⟩
 | .dic ks ds,_,h=>by
  unfold Rep at h⊢;obtain⟨a,vs,h0,h1,h3,h4⟩:=h;exact⟨a,vs,h0,e _ _ h1,h3,vN e ds vs h4⟩
 | .gK ks ds,_,h=>by
  unfold Rep at h⊢;obtain⟨a,vs,h0,h1,h3,h4⟩:=h;exact⟨a,vs,h0,e _ _ h1,h3,vN e ds vs h4⟩
 | .dik ks ds,_,h=>by
  unfold Rep at h⊢;obtain⟨a,o,vs,h0,h1,h3,h4⟩:=h;exact⟨a,o,vs,h0,e _ _ h1,h3,vN e ds vs h4⟩
theorem vN{K:W.Frag}{F F' :Hp}(e:Same F F'):∀(ds:List D) (vs:List V),ak K F ds vs ->ak K F' ds vs
 | [],_,h=>by unfold ak at h⊢;exact h
 | d::ds,_,h=>by
  unfold ak at h⊢;obtain⟨v,r,h0,h1,h2⟩:=h;exact⟨v,r,h0,V9 e d v h1,vN e ds r h2⟩
end
theorem Rep.up{K:W.Frag}{F F' :Hp}{d:D}{v:V}(h:Rep K F d v)(e:Same F F'):Rep K F' d v:=V9 e d v h
theorem ak.up{K:W.Frag}{F F' :Hp}{ds:List D}{vs:List V}(h:ak K F ds vs)(e:Same F F'):ak K F' ds vs:=vN e ds vs h
theorem gM{K:W.Frag}{F:Hp}:∀{ds:List D} {vs:List V},ak K F ds vs ->ds.length=vs.length
 | [],_,h=>by unfold ak at h;subst h;rfl
 | _::_,_,h=>by
  unfold ak at h;obtain⟨v,r,rfl,_,h2⟩:=h;simp only [List.length_cons,gM h2]
theorem nD{K:W.Frag}{F:Hp}:∀{ds:List D} {vs:List V} {i:Nat} {d:D},ak K F ds vs ->ds[i]?=some d ->∃v,vs[i]?=some v/\Rep K F d v
 | [],_,_,_,_,e=>by simp at e
 | _::_,_,0,_,h,e=>by
  unfold ak at h;obtain⟨v,r,rfl,h1,_⟩:=h;simp at e;subst e;exact⟨v,rfl,h1⟩
 | _::_,_,i+1,d,h,e=>by
  unfold ak at h;obtain⟨v,r,rfl,_,h2⟩:=h;obtain⟨u,e1,e2⟩:=nD (i:=i) h2 (by simpa using e)
  exact⟨u,by simpa using e1,e2⟩
theorem Wa{K:W.Frag}{F:Hp}:∀{ds:List D} {vs:List V} {i:Nat} {v:V},ak K F ds vs ->vs[i]?=some v ->∃d,ds[i]?=some d/\Rep K F d v
 | [],_,_,_,h,e=>by unfold ak at h;subst h;simp at e
 | d::_,_,0,_,h,e=>by
  unfold ak at h;obtain⟨v,r,rfl,h1,_⟩:=h;simp at e;subst e;exact⟨d,rfl,h1⟩
 | _::_,_,i+1,v,h,e=>by
  unfold ak at h;obtain⟨v',r,rfl,_,h2⟩:=h;obtain⟨u,e1,e2⟩:=Wa (i:=i) h2 (by simpa using e)
  exact⟨u,by simpa using e1,e2⟩
theorem xH{K:W.Frag}{F:Hp}:∀{ds es:List D} {vs us:List V},ak K F ds vs ->ak K F es us ->ak K F (ds++es) (vs++us)
 | [],_,_,_,h,k=>by unfold ak at h;subst h;exact k
 | _::_,_,_,_,h,k=>by
  unfold ak at h;obtain⟨v,r,rfl,h1,h2⟩:=h;show ak K F (_::(_++_)) _;unfold ak;exact⟨v,_,rfl,h1,xH h2 k⟩
theorem Dt{K:W.Frag}{F:Hp}{d:D}{v:V}(h:Rep K F d v):ak K F [d] [v]:=by
 unfold ak;exact⟨v,[],rfl,h,by unfold ak;rfl⟩
theorem oW{K:W.Frag}{F:Hp}{d:D}{v:V}{ds:List D}{vs:List V}(h:Rep K F d v)(k:ak K F ds vs):ak K F (d::ds) (v::vs):=by
 unfold ak;exact⟨v,vs,rfl,h,k⟩
theorem Wb{K:W.Frag}{F:Hp}:∀{ds:List D} {vs:List V} (n:Nat),ak K F ds vs ->ak K F (ds.take n) (vs.take n)
 | _,_,0,_=>by simp [ak]
 | [],_,_+1,h=>by unfold ak at h;subst h;simp [ak]
 | _::_,_,n+1,h=>by
  unfold ak at h;obtain⟨u,r,rfl,h1,h2⟩:=h;exact oW h1 (Wb n h2)
theorem Wc{K:W.Frag}{F:Hp}:∀{ds:List D} {vs:List V} (n:Nat),ak K F ds vs ->ak K F (ds.drop n) (vs.drop n)
 | _,_,0,h=>h
 | [],_,_+1,h=>by unfold ak at h;subst h;simp [ak]
 | _::_,_,n+1,h=>by
  unfold ak at h;obtain⟨u,r,rfl,h1,h2⟩:=h;exact Wc n h2
def rH(H:Hp)(b:Addr)(o:HO):Prop:=H b=none\/ (∃xs,o= .tup xs)/\H b=some o
theorem rH.back(s:Same H H1)(h:rH H1 b o):rH H b o:=by
 rcases h with h | ⟨⟨xs,e⟩,h⟩
 ·exact .inl (s.free h)
 ·cases q:H b with
  | none=>exact .inl q
  | some u=>
   have:=s _ _ q;rw[h] at this;cases this;exact .inr ⟨⟨xs,e⟩,q⟩
structure Gr (F H F' H' :Hp):Prop where
 f:Same F F'
 g:Same F' H'
 h:Same H H'
 n:∀b o,F' b=some o ->F b=none ->rH H b o
theorem Gr.refl(h:Same F H):Gr F H F H:=⟨.refl _,h,.refl _,fun b o e n=>by rw[e] at n;cases n⟩
theorem Gr.trans(a:Gr F H F1 H1)(b:Gr F1 H1 F2 H2):Gr F H F2 H2:=by
 refine⟨a.f.trans b.f,b.g,a.h.trans b.h,fun c o e n=> ?_⟩;cases q:F1 c with
 | none=>exact rH.back a.h (b.n c o e q)
 | some u=>have:=b.f _ _ q;rw[e] at this;cases this;exact a.n c _ q n
theorem Gr.laid(h:Same F H)(hp:H p=none):Gr F H (L2.upd F p o) (L2.upd H p o):=by
 refine⟨fun b u e=> ?_,fun b u e=> ?_,fun b u e=> ?_,fun b u e n=> ?_⟩
 ·rw[c7 (lG (h b u e) hp)];exact e
 ·by_cases hb:b=p
  ·subst hb;rw[lV] at e⊢;exact e
  ·rw[c7 hb] at e⊢;exact h b u e
 ·rw[c7 (lG e hp)];exact e
 ·by_cases hb:b=p
  ·subst hb;exact .inl hp
  ·rw[c7 hb,n] at e;cases e
inductive T where
 | leaf (d:D) | lst (ts:List T) | dic (ks:List L2.Key) (ts:List T) | gK (ks:List (List L2.Key)) (ts:List T) | ob (C:Addr) (fs:List Str) (ts:List T) | kt (k:List L2.Key)
def cM:Key ->D | .inl i=> .int i | .inr x=> .str x
def rJ(fs:List Str):Bool:= !decide (fs= [("points" :Str)])
mutual
def TR(K:W.Frag)(F H:Hp):T ->V ->List Addr ->Prop
 | .leaf d,v,as=>as= []/\Rep K F d v
 | .lst ts,v,as=>∃a vs bs,v= .ref a/\as=a::bs/\H a=some (.lst vs)/\cL K F H ts vs bs
 | .dic ks ts,v,as=>∃a vs bs,v= .ref a/\as=a::bs/\H a=some (.dK (ks.zip vs))/\ks.length=vs.length/\cL K F H ts vs bs
 | .gK ks ts,v,as=>∃a vs bs,v= .ref a/\as=a::bs/\H a=some (.dT (ks.zip vs))/\ks.length=vs.length/\cL K F H ts vs bs
 | .ob C fs ts,v,as=>∃a dx vs bs,v= .ref a/\as=a::dx::bs/\H a=some (.ins C dx (fs.zip vs))/\H dx=some (.own a)/\fs.length=vs.length/\rJ fs=true/\cL K F H ts vs bs
 | .kt k,v,as=>as= []/\∃a,v= .ref a/\F a=some (.tup (k.map kV))
def cL(K:W.Frag)(F H:Hp):List T ->List V ->List Addr ->Prop
 | [],vs,as=>vs= []/\as= []
 | t::ts,vs,as=>∃v us bs cs,vs=v::us/\as=bs++cs/\TR K F H t v bs/\cL K F H ts us cs
end
section
variable{K:W.Frag}{F H F' H' :Hp}
mutual
theorem TR.move(f:Same F F'):∀(t:T) (v:V) (as:List Addr),(∀a∈as,∀u,H a=some u ->H' a=some u) ->TR K F H t v as ->TR K F' H' t v as
 | .leaf d,v,as,k,h=>by unfold TR at h⊢;exact⟨h.1,h.2.up f⟩
 | .lst ts,v,as,k,h=>by
  unfold TR at h⊢;obtain⟨a,vs,bs,e1,rfl,e3,h⟩:=h;exact⟨a,vs,bs,e1,rfl,k a zW _ e3,cL.move f ts vs bs (fun b hb=>k b (zV _ hb)) h⟩
 | .dic ks ts,v,as,k,h=>by
  unfold TR at h⊢;obtain⟨a,vs,bs,e1,rfl,e3,e4,h⟩:=h;exact⟨a,vs,bs,e1,rfl,k a zW _ e3,e4,cL.move f ts vs bs (fun b hb=>k b (zV _ hb)) h⟩
 | .gK ks ts,v,as,k,h=>by
  unfold TR at h⊢;obtain⟨a,vs,bs,e1,rfl,e3,e4,h⟩:=h;exact⟨a,vs,bs,e1,rfl,k a zW _ e3,e4,cL.move f ts vs bs (fun b hb=>k b (zV _ hb)) h⟩
 | .ob C fs ts,v,as,k,h=>by
  unfold TR at h⊢;obtain⟨a,dx,vs,bs,e1,rfl,e3,e4,e5,e6,h⟩:=h;exact⟨a,dx,vs,bs,e1,rfl,k a zW _ e3,k dx (zV _ zW) _ e4,e5,e6,cL.move f ts vs bs (fun b hb=>k b (zV _ (zV _ hb))) h⟩
 | .kt _,v,as,k,h=>by unfold TR at h⊢;obtain⟨e,a,e1,e2⟩:=h;exact⟨e,a,e1,f _ _ e2⟩
theorem cL.move(f:Same F F'):∀(ts:List T) (vs:List V) (as:List Addr),(∀a∈as,∀u,H a=some u ->H' a=some u) ->cL K F H ts vs as ->cL K F' H' ts vs as
 | [],vs,as,k,h=>by unfold cL at h⊢;exact h
 | t::ts,vs,as,k,h=>by
  unfold cL at h⊢;obtain⟨v,us,bs,cs,e1,rfl,h1,h2⟩:=h;exact⟨v,us,bs,cs,e1,rfl,TR.move f t v bs (fun b hb=>k b (zO _ hb)) h1,cL.move f ts us cs (fun b hb=>k b (zP _ hb)) h2⟩
end
def LD(u:HO):Prop:=(∃vs,u= .lst vs)\/ (∃kvs,u= .dK kvs)\/ (∃kvs,u= .dT kvs)\/ (∃C dx kvs,u= .ins C dx kvs/\rJ (kvs.map (·.1))=true)\/∃a,u= .own a
theorem Wd:∀{fs:List Str} {vs:List V},fs.length=vs.length ->(fs.zip vs).map (·.1)=fs
 | [],_,_=>rfl
 | _::_,[],h=>by cases h
 | f::fs,v::vs,h=>by rw[List.zip_cons_cons,List.map_cons,Wd (by simpa using h)]
theorem LD.tup(h:LD (.tup xs)):False:=by rcases h with ⟨_,z⟩ | ⟨_,z⟩ | ⟨_,z⟩ | ⟨_,_,_,z,_⟩ | ⟨_,z⟩<;>cases z
mutual
theorem TR.there:∀(t:T) (v:V) (as:List Addr),TR K F H t v as ->∀a∈as,∃u,H a=some u/\LD u
 | .leaf d,v,as,h,a,ha=>by unfold TR at h;rw[h.1] at ha;cases ha
 | .lst ts,v,as,h,a,ha=>by
  unfold TR at h;obtain⟨b,vs,bs,e1,rfl,e3,h⟩:=h;rcases zT.mp ha with rfl | ha
  ·exact⟨_,e3,.inl ⟨_,rfl⟩⟩
  ·exact cL.there ts vs bs h a ha
 | .dic ks ts,v,as,h,a,ha=>by
  unfold TR at h;obtain⟨b,vs,bs,e1,rfl,e3,_,h⟩:=h;rcases zT.mp ha with rfl | ha
  ·exact⟨_,e3,.inr (.inl ⟨_,rfl⟩)⟩
  ·exact cL.there ts vs bs h a ha
 | .gK ks ts,v,as,h,a,ha=>by
  unfold TR at h;obtain⟨b,vs,bs,e1,rfl,e3,_,h⟩:=h;rcases zT.mp ha with rfl | ha
  ·exact⟨_,e3,.inr (.inr (.inl ⟨_,rfl⟩))⟩
  ·exact cL.there ts vs bs h a ha
 | .ob C fs ts,v,as,h,a,ha=>by
  unfold TR at h;obtain⟨b,dx,vs,bs,e1,rfl,e3,e4,e5,e6,h⟩:=h;rcases zT.mp ha with rfl | ha
  ·exact⟨_,e3,.inr (.inr (.inr (.inl ⟨_,_,_,rfl,by rw[Wd e5];exact e6⟩)))⟩
  ·rcases zT.mp ha with rfl | ha
   ·exact⟨_,e4,.inr (.inr (.inr (.inr ⟨_,rfl⟩)))⟩
   ·exact cL.there ts vs bs h a ha
 | .kt _,v,as,h,a,ha=>by unfold TR at h;rw[h.1] at ha;cases ha
theorem cL.there:∀(ts:List T) (vs:List V) (as:List Addr),cL K F H ts vs as ->∀a∈as,∃u,H a=some u/\LD u
 | [],vs,as,h,a,ha=>by unfold cL at h;rw[h.2] at ha;cases ha
 | t::ts,vs,as,h,a,ha=>by
  unfold cL at h;obtain⟨v,us,bs,cs,e1,rfl,h1,h2⟩:=h;rcases zR.mp ha with ha | ha
  ·exact TR.there t v bs h1 a ha
  ·exact cL.there ts us cs h2 a ha
end
end
mutual
def toD:T ->D
 | .leaf d=>d
 | .lst ts=> .lst (d8 ts)
 | .dic ks ts=> .dic ks (d8 ts)
 | .gK ks ts=> .gK ks (d8 ts)
 | .ob C fs ts=> .obj C fs (d8 ts)
 | .kt k=> .tup (k.map cM)
def d8:List T ->List D
 | []=> []
 | t::ts=>toD t::d8 ts
end
theorem Iu{K:W.Frag}{F:Hp}:∀ks:List Key,ak K F (ks.map cM) (ks.map kV)
 | []=>by unfold List.map ak;rfl
 | .inl i::ks=>oW (by unfold cM Rep;rfl) (Iu ks)
 | .inr x::ks=>oW (by unfold cM Rep;rfl) (Iu ks)
section
variable{K:W.Frag}{F H F' :Hp}
mutual
theorem TR.rep(f:Same F F'):∀(t:T) (v:V) (as:List Addr),(∀a∈as,∀u,H a=some u ->F' a=some u) ->TR K F H t v as ->Rep K F' (toD t) v
 | .leaf d,v,as,k,h=>by unfold TR at h;unfold toD;exact h.2.up f
 | .lst ts,v,as,k,h=>by
  unfold TR at h;obtain⟨a,vs,bs,e1,rfl,e3,h⟩:=h;unfold toD Rep;exact⟨a,vs,e1,.inl (.inl (k a zW _ e3)),cL.rep f ts vs bs (fun b hb=>k b (zV _ hb)) h⟩
 | .dic ks ts,v,as,k,h=>by
  unfold TR at h;obtain⟨a,vs,bs,e1,rfl,e3,e4,h⟩:=h;unfold toD Rep;exact⟨a,vs,e1,k a zW _ e3,e4,cL.rep f ts vs bs (fun b hb=>k b (zV _ hb)) h⟩
 | .gK ks ts,v,as,k,h=>by
  unfold TR at h;obtain⟨a,vs,bs,e1,rfl,e3,e4,h⟩:=h;unfold toD Rep;exact⟨a,vs,e1,k a zW _ e3,e4,cL.rep f ts vs bs (fun b hb=>k b (zV _ hb)) h⟩
 | .ob C fs ts,v,as,k,h=>by
  unfold TR at h;obtain⟨a,dx,vs,bs,e1,rfl,e3,e4,e5,e6,h⟩:=h;unfold toD Rep;exact⟨a,dx,vs,e1,k a zW _ e3,e5,cL.rep f ts vs bs (fun b hb=>k b (zV _ (zV _ hb))) h⟩
 | .kt k,v,as,_,h=>by
  unfold TR at h;obtain⟨_,a,e1,e2⟩:=h;unfold toD Rep;exact⟨a,_,e1,.inl (.inl (f _ _ e2)),Iu k⟩
theorem cL.rep(f:Same F F'):∀(ts:List T) (vs:List V) (as:List Addr),(∀a∈as,∀u,H a=some u ->F' a=some u) ->cL K F H ts vs as ->ak K F' (d8 ts) vs
 | [],vs,as,k,h=>by unfold cL at h;unfold d8 ak;exact h.1
 | t::ts,vs,as,k,h=>by
  unfold cL at h;obtain⟨v,us,bs,cs,e1,rfl,h1,h2⟩:=h;unfold d8 ak;exact⟨v,us,e1,TR.rep f t v bs (fun b hb=>k b (zO _ hb)) h1,cL.rep f ts us cs (fun b hb=>k b (zP _ hb)) h2⟩
end
end
inductive Slot where
 | no | pu (d:D) | ow (ds:List D) | tr (as:List Addr) (t:T)
def iM(K:W.Frag)(F H H0:Hp):Slot ->Option V ->Prop
 | .no,_=>True
 | .pu d,o=>∃v,o=some v/\Rep K F d v
 | .ow ds,o=>∃a vs,o=some (.ref a)/\H a=some (.lst vs)/\F a=none/\H0 a=none/\ak K F ds vs
 | .tr as t,o=>∃v,o=some v/\as.Nodup/\ (∀b∈as,F b=none/\H0 b=none)/\TR K F H t v as
def d9:Slot ->Option V ->Addr ->Prop
 | .ow _,o,a=>o=some (.ref a)
 | .tr as _,_,a=>a∈as
 | _,_,_=>False
def iQ(Γ:List Slot)(σ:St)(i:Nat)(a:Addr):Prop:=∃s o,Γ[i]?=some s/\σ[i]?=some o/\d9 s o a
structure SR (K:W.Frag) (F0 H0 F H:Hp) (σ:St) (Γ:List Slot):Prop where
 gr:Gr F0 H0 F H
 len:σ.length=Γ.length
 sl:∀(i:Nat) s,Γ[i]?=some s ->∃o,σ[i]?=some o/\iM K F H H0 s o
 ap:∀(i j:Nat) a,iQ Γ σ i a ->iQ Γ σ j a ->i=j
section
variable{K:W.Frag}{F0 H0 F H F' H' :Hp}{σ:St}{Γ:List Slot}
theorem SR.g(R:SR K F0 H0 F H σ Γ):Same F H:=R.gr.g
theorem uo(r:iM K F H H0 s o)(h:d9 s o a):F a=none/\H0 a=none/\∃u,H a=some u/\LD u:=by
 cases s with
 | no=>exact h.elim
 | pu d=>exact h.elim
 | ow ds=>obtain⟨b,vs,rfl,h1,h2,h3,_⟩:=r;cases h;exact⟨h2,h3,_,h1,.inl ⟨_,rfl⟩⟩
 | tr as t=>obtain⟨v,_,_,h2,h3⟩:=r;exact⟨(h2 a h).1,(h2 a h).2,TR.there t v as h3 a h⟩
theorem Du(r:iM K F H H0 s o)(f:Same F F')(k:∀a,d9 s o a ->F' a=none/\∀u,H a=some u ->H' a=some u):iM K F' H' H0 s o:=by
 cases s with
 | no=>trivial
 | pu d=>
  obtain⟨v,e,r⟩:=r;exact⟨v,e,r.up f⟩
 | ow ds=>
  obtain⟨a,vs,e,e1,e2,e3,r⟩:=r;obtain⟨k1,k2⟩:=k a e;exact⟨a,vs,e,k2 _ e1,k1,e3,r.up f⟩
 | tr as t=>
  obtain⟨v,e,nd,h,r⟩:=r;exact⟨v,e,nd,fun b hb=>⟨(k b hb).1,(h b hb).2⟩,TR.move f t v as (fun a ha=>(k a ha).2) r⟩
theorem zq5(r:iM K F H H0 s o)(g:Gr F H F' H'):iM K F' H' H0 s o:=
 Du r g.f fun a ha=>by
  obtain⟨h1,_,u,h3,ld⟩:=uo r ha;refine⟨?_,fun u e=>g.h _ _ e⟩;cases q:F' a with
  | none=>rfl
  | some w=>
   rcases g.n a w q h1 with z | ⟨⟨xs,e⟩,z⟩
   ·rw[h3] at z;cases z
   ·rw[h3] at z;cases z;subst e;exact ld.tup.elim
theorem SR.grow(R:SR K F0 H0 F H σ Γ)(g:Gr F H F' H'):SR K F0 H0 F' H' σ Γ:=by
 refine⟨R.gr.trans g,R.len,fun i s e=> ?_,R.ap⟩;obtain⟨o,e1,r⟩:=R.sl i s e;exact⟨o,e1,zq5 r g⟩
theorem Dv(h:iQ (Γ.set i s) (σ.set i o) j a):(j=i/\d9 s o a)\/ (j≠i/\iQ Γ σ j a):=by
 obtain⟨t,p,e1,e2,h⟩:=h;by_cases hj:i=j
 ·subst hj;have hi:i<Γ.length:=by
   rcases Nat.lt_or_ge i Γ.length with h | h
   ·exact h
   ·rw[List.getElem?_eq_none (by simpa using h)] at e1;cases e1
  have hi' :i<σ.length:=by
   rcases Nat.lt_or_ge i σ.length with h | h
   ·exact h
   ·rw[List.getElem?_eq_none (by simpa using h)] at e2;cases e2
  rw[List.getElem?_set_self hi] at e1;rw[List.getElem?_set_self hi'] at e2;cases e1;cases e2;exact .inl ⟨rfl,h⟩
 ·rw[List.getElem?_set_ne hj] at e1 e2;exact .inr ⟨Ne.symm hj,t,p,e1,e2,h⟩
def Apart(σ:St)(Γ:List Slot)(a:Addr):Prop:=∀j,¬iQ Γ σ j a
theorem SR.apart(R:SR K F0 H0 F H σ Γ)(h:H a=none):Apart σ Γ a:=fun j hq1=>by
 obtain⟨s,o,e1,e2,q⟩:=hq1;obtain⟨o',e3,r⟩:=R.sl j s e1;rw[e2] at e3;cases e3;obtain⟨_,_,u,e,_⟩:=uo r q;rw[h] at e;cases e
theorem SR.put(R:SR K F0 H0 F H σ Γ)(i:Nat)(r:iM K F H H0 s o)(ha:∀a,d9 s o a ->Apart σ Γ a):SR K F0 H0 F H (σ.set i o) (Γ.set i s):=by
 refine⟨R.gr,by simp [R.len],fun j t e=> ?_,fun j k a e1 e2=> ?_⟩
 ·by_cases hj:i=j
  ·subst hj;have hi:i<Γ.length:=by
    rcases Nat.lt_or_ge i Γ.length with h | h
    ·exact h
    ·rw[List.getElem?_eq_none (by simpa using h)] at e;cases e
   rw[List.getElem?_set_self hi] at e;cases e;exact⟨o,List.getElem?_set_self (by rw[R.len];exact hi),r⟩
  ·rw[List.getElem?_set_ne hj] at e;rw[List.getElem?_set_ne hj];exact R.sl j t e
 ·rcases Dv e1 with ⟨rfl,q1⟩ | ⟨n1,q1⟩
  ·rcases Dv e2 with ⟨rfl,_⟩ | ⟨_,q2⟩
   ·rfl
   ·exact(ha a q1 _ q2).elim
  ·rcases Dv e2 with ⟨rfl,q2⟩ | ⟨_,q2⟩
   ·exact(ha a q2 _ q1).elim
   ·exact R.ap j k a q1 q2
theorem SR.set(R:SR K F0 H0 F H σ Γ)(i:Nat)(r:Rep K F d v):SR K F0 H0 F H (σ.set i (some v)) (Γ.set i (.pu d)):=R.put i ⟨v,rfl,r⟩ fun _ h=>h.elim
theorem SR.drop(R:SR K F0 H0 F H σ Γ)(i:Nat)(o:Option V):SR K F0 H0 F H (σ.set i o) (Γ.set i .no):=R.put i trivial fun _ h=>h.elim
theorem SR.setOw(R:SR K F0 H0 F H σ Γ)(i:Nat)(h1:H a=some (.lst vs))(h2:F a=none)(h3:H0 a=none)(r:ak K F ds vs)(ha:Apart σ Γ a):
  SR K F0 H0 F H (σ.set i (some (.ref a))) (Γ.set i (.ow ds)):=R.put i ⟨a,vs,rfl,h1,h2,h3,r⟩ fun b h=>by cases h;exact ha
theorem Nq(g:Same F H)(h1:H a=some (.lst vs))(h2:F a=none):Same F (L2.upd F a (.lst vs))/\Same (L2.upd F a (.lst vs)) H:=by
 refine⟨fun b u e=> ?_,fun b u e=> ?_⟩
 ·rw[c7 (lG e h2)];exact e
 ·by_cases hb:b=a
  ·subst hb;rw[lV] at e;cases e;exact h1
  ·rw[c7 hb] at e;exact g b u e
theorem SR.frzM(R:SR K F0 H0 F H σ Γ)(s1:Same F F')(s2:Same F' H)(n:∀b u,F' b=some u ->F b=none ->H0 b=none/\Apart σ Γ b):SR K F0 H0 F' H σ Γ:=by
 refine⟨⟨R.gr.f.trans s1,s2,R.gr.h,fun b o e q=> ?_⟩,R.len,fun j s e=> ?_,R.ap⟩
 ·cases z:F b with
  | none=>exact .inl (n b o e z).1
  | some u=>have:=s1 _ _ z;rw[e] at this;cases this;exact R.gr.n b _ z q
 ·obtain⟨o,e1,r⟩:=R.sl j s e;refine⟨o,e1,Du r s1 fun b hb=>⟨?_,fun _ q=>q⟩⟩;obtain⟨h1,_,_⟩:=uo r hb;cases q:F' b with
  | none=>rfl
  | some u=>exact((n b u q h1).2 j ⟨s,o,e,e1,hb⟩).elim
def aaE(F H:Hp):Hp:=fun b=>match F b with | some u=>some u | none=>match H b with | some (.tup xs)=>some (.tup xs) | _=>none
theorem SR.frzA(R:SR K F0 H0 F H σ Γ)(h1:H a=some (.lst vs))(h2:F a=none)(h3:H0 a=none)(ha:Apart σ Γ a):SR K F0 H0 (L2.upd F a (.lst vs)) H σ Γ:=by
 obtain⟨s1,s2⟩:=Nq R.g h1 h2;refine R.frzM s1 s2 fun b u e n=> ?_;by_cases hb:b=a
 ·subst hb;exact⟨h3,ha⟩
 ·rw[c7 hb,n] at e;cases e
theorem xJ(e1:σ[i]?=some o):σ.set i o=σ:=by
 obtain⟨hl,e2⟩:=zU.mp e1;rw[<- e2];simp
theorem SR.less(R:SR K F0 H0 F H σ Γ)(e:Γ[i]?=some s)(e1:σ[i]?=some o)(h:d9 s o a):Apart σ (Γ.set i .no) a:=fun j q=>by
 have q' :iQ (Γ.set i .no) (σ.set i o) j a:=by rw[xJ e1];exact q
 rcases Dv q' with ⟨_,z⟩ | ⟨n,z⟩
 ·exact z
 ·exact n (R.ap j i a z ⟨s,o,e,e1,h⟩)
theorem SR.dropAt(R:SR K F0 H0 F H σ Γ)(e1:σ[i]?=some o):SR K F0 H0 F H σ (Γ.set i .no):=by
 have q:=R.drop i o;rw[xJ e1] at q;exact q
theorem SR.frz(R:SR K F0 H0 F H σ Γ)(e:Γ[i]?=some (.ow ds)):∃a F',σ[i]?=some (some (.ref a))/\Same F F' /\SR K F0 H0 F' H σ (Γ.set i (.pu (.lst ds)))/\Rep K F' (.lst ds) (.ref a):=by
 obtain⟨o,e1,a,vs,rfl,h1,h2,h3,r⟩:=R.sl i _ e;obtain⟨s1,_⟩:=Nq R.g h1 h2;have rp:Rep K (L2.upd F a (.lst vs)) (.lst ds) (.ref a):=by
  unfold Rep;exact⟨a,vs,rfl,.inl (.inl lV),r.up s1⟩
 have R2:=((R.dropAt e1).frzA h1 h2 h3 (R.less e e1 (show d9 (Slot.ow ds) (some (.ref a)) a from rfl))).set i rp;rw[xJ e1,List.set_set] at R2;exact⟨a,_,e1,s1,R2,rp⟩
theorem SR.wrO(R:SR K F0 H0 F H σ Γ)(e:Γ[i]?=some s)(e1:σ[i]?=some o)(h:d9 s o a)(r:iM K F (L2.upd H a u) H0 t o)(ht:∀b,d9 t o b ->d9 s o b):
  SR K F0 H0 F (L2.upd H a u) σ (Γ.set i t):=by
 obtain⟨o',e2,r0⟩:=R.sl i _ e;rw[e1] at e2;cases e2;obtain⟨h2,h3,w,h1,_⟩:=uo r0 h;have hi:i<Γ.length:=(zU.mp e).1;have R1:SR K F0 H0 F (L2.upd H a u) σ (Γ.set i .no):=by
  have R0:=R.dropAt e1;refine⟨⟨R0.gr.f,fun b u q=> ?_,fun b u q=> ?_,fun b o q n=>R0.gr.n b o q n⟩,R0.len,fun j s' q=> ?_,R0.ap⟩
  ·rw[c7 (lG q h2)];exact R0.g b u q
  ·rw[c7 (lG q h3)];exact R0.gr.h b u q
  ·obtain⟨o,p1,p2⟩:=R0.sl j s' q;refine⟨o,p1,Du p2 (.refl _) fun b hb=>⟨(uo p2 hb).1,fun u q' => ?_⟩⟩;have:b≠a:=fun z=>by subst z;exact R.less e e1 h j ⟨s',o,q,p1,hb⟩
   rw[c7 this];exact q'
 have R2:=R1.put i r fun b hb=>R.less e e1 (ht b hb);rw[xJ e1,List.set_set] at R2;exact R2
theorem SR.wr(R:SR K F0 H0 F H σ Γ)(e:Γ[i]?=some (.ow ds))(e1:σ[i]?=some (some (.ref a)))(r:ak K F es us):
  SR K F0 H0 F (L2.upd H a (.lst us)) σ (Γ.set i (.ow es)):=by
 obtain⟨o,e2,r0⟩:=R.sl i _ e;rw[e1] at e2;cases e2;obtain⟨h2,h3,_⟩:=uo r0 (show d9 (Slot.ow ds) (some (.ref a)) a from rfl);exact R.wrO e e1 (show d9 (Slot.ow ds) (some (.ref a)) a from rfl) ⟨a,us,rfl,lV,h2,h3,r⟩ fun b hb=>hb
end
def Wf(h B:Heap)(e:Addr)(cls:Value)(dd:Option Addr)(fl:Value):Prop:=
 ∃oe vs T oT ts,h.get? e=some oe/\ (oe.cls=cls/\oe.dict=dd/\vs[2]?=some Value.none)/\oe.data= .fields vs/\vs[1]?=some (.ref T)/\B.get? T=none/\T≠e/\h.get? T=some oT/\oT.data= .fields ts/\ts[3]?=some fl
def Dw(B:Heap)(l:List Env)(a:Addr)(cls:Value)(h:Heap):Prop:=
 B.StaysIn h/\B.get? a=none/\h.FunFrames B l/\
  ((∃dd,Wf h B a cls dd .none)\/∃oe vs,h.get? a=some oe/\oe.cls=cls/\oe.data= .fields vs/\vs[1]?=some Value.none/\vs[2]?=some Value.none)
def pJ(B:Heap)(l:List Env)(e:Addr)(cls:Value)(dd:Option Addr)(fl:Value)(h:Heap):Prop:=B.StaysIn h/\B.get? e=none/\h.FunFrames B l/\Wf h B e cls dd fl
section
variable{M:Model}{A:Around}{E:bG}{s:Shared}{B:Heap}{env:Env}{outer:List Env}{L a:Addr}{cls fl:Value}{dd:Option Addr}{Q:Unit ->Shared ->Prop}
theorem zun(f:Array Value ->Array Value)(o:Obj):(Obj.mapFields f o).dict=o.dict:=by
 unfold Obj.mapFields;split<;>rfl
theorem Ae{h:Heap}{T b:Addr}{oT o:Obj}{ts:Array Value}(hT:h.get? T=some oT)(hd:oT.data= .fields ts)(hb:h.get? b=some o)(hn:∀vs,o.data≠ .fields vs):b≠T:=fun q=>by
 rw[q,hT] at hb;injection hb with hb;subst hb;exact hn ts hd
theorem Dy{l:List Env}(x:pJ B l a cls dd fl s.heap)(hQ:∀h',pJ B l a cls dd .none h' ->s.heap.UpToSlots h' ->Q () {s with heap:=h'}):wpAny M A (setFlight (.ref a) none) Q E s:=by
 obtain⟨f1,f2,f3,oe,vs,T,oT,ts,he,hk,hd,h1,hB,hne,hT,hdT,h3⟩:=x;have far:∀b,b≠T ->(s.heap.update T (Obj.mapFields (·.setIfInBounds 3 ((none:Option Addr).elim Value.none fun f=>rawInt f)))).get? b=s.heap.get? b:=fun b hb=>Heap.get?_update_other _ _ (Ne.symm hb);have hz:3<ts.size:=(Array.getElem?_eq_some_iff.mp h3).1;unfold setFlight;refine z6 (wpAny_field he hd h1 ?_);rw[if_pos (by simp)]
 refine wpAny_setField hT hdT hz (hQ _ ⟨fun b o q=> ?_,f2,f3.of_keeps fun b o q n=>⟨o,?_,rfl⟩,oe,vs,T,_,_,(far a (Ne.symm hne)).trans he,hk,hd,h1,hB,hne,Heap.get?_update_self _ hT (Obj.isFreed_of_fields (Obj.data_mapFields hdT _)),Obj.data_mapFields hdT _,by simp [hz]⟩ fun b o q n=>⟨o.slots,?_⟩)
 ·exact(far b fun z=>by rw[z,hB] at q;cases q).trans (f1 b o q)
 ·exact(far b (Ae hT hdT q n)).trans q
 ·exact(far b (Ae hT hdT q n)).trans q
theorem rK{oe:Obj}{vs:Array Value}{head:Value}{more:Bool}(hfr:A.frames=some (env::outer))(hl:s.heap.FunFrames B (env::outer))(hf:env.frame=some L)(he:s.heap.get? a=some oe)(hkb:B.StaysIn s.heap)(hen:B.get? a=none)
  (hd:oe.data= .fields vs) (hz:1<vs.size) (h2:vs[2]?=some Value.none) (hQ:∀h',pJ B (env::outer) a oe.cls oe.dict (rawInt L) h' ->s.heap.UpToSlots h' ->Q () {s with heap:=h'}):
  wpAny M A (do let x<- frameOf env;let pl<- entryPlaceOf L more;let b<- EntryCells.newEntry head x .none (rawInt L) .none pl;setField (.ref a) 1 b) Q E s:=by
 have nf:a∉ (env::outer).filterMap (·.frame):=fun hm=>by
  obtain⟨_,o,ho,hn⟩:=hl.mem hm;rw[he] at ho;injection ho with ho;subst ho;exact hn vs hd
 refine z6 (wpAny_frameOf_fun hfr hl hf fun h1 k1=> ?_);refine z6 (wpAny_entryPlaceOf fun pl hp=> ?_);unfold EntryCells.newEntry newFields;refine z6 (wpAny_newObj_type ?_ (hp.sizeOk5 _ _ _ _ _));have e1:h1.get? a=some oe:=(k1.2.1 a nf).trans he;have b1:B.StaysIn h1:=fun b o q=>(k1.2.1 b fun hm=>by rw[(hl.mem hm).1] at q;cases q).trans (hkb b o q)
 refine wpAny_setField (zZ _ e1) hd hz (hQ _ ?_ ?_)
 all_goals
  have ne:h1.objs.size≠a:=Nat.ne_of_gt (zG e1);have d3:=Obj.data_mapFields hd (·.setIfInBounds 1 (Value.ref h1.objs.size));have far:∀b o,b≠a ->h1.get? b=some o ->((h1.push {cls:= .type "traceback",dict:=none,data:= .fields ([head,.ref L,.none,rawInt L,.none]++ (if pl.isEmpty then List.replicate 6 Value.none else pl)).toArray}).update a (Obj.mapFields (·.setIfInBounds 1 (Value.ref h1.objs.size)))).get? b=some o:=
   fun b o hb q=>by rw[Heap.get?_update_other _ _ (Ne.symm hb)];exact zZ _ q
 ·refine⟨fun b o q=>far b o (fun z=>by rw[z,hen] at q;cases q) (b1 b o q),hen,hl.of_keeps fun b o q n=> ?_,?_⟩
  ·obtain⟨sl,k⟩:=k1.2.2 b o q;exact⟨_,far b _ (Ae he hd q n) k,rfl⟩
  ·exact⟨_,_,h1.objs.size,_,_,Heap.get?_update_self _ (zZ _ e1) (Obj.isFreed_of_fields d3),⟨Obj.cls_mapFields _ _,zun _ _,by rw[Array.getElem?_setIfInBounds_ne (by decide)];exact h2⟩,d3,by simp [hz],b1.fresh,ne,
    (Heap.get?_update_other _ _ (Ne.symm ne)).trans (zY h1 rfl),rfl,by first | (simp;done) | (rcases hp with rfl | ⟨_,_,_,_,_,_,_,rfl⟩<;>simp)⟩
 ·intro b o q n;obtain⟨sl,k⟩:=k1.2.2 b o q;exact⟨sl,far b _ (Ae he hd q n) k⟩
theorem zwn(hfr:A.frames=some (env::outer))(hf:env.frame=some L)(x:Dw B (env::outer) a cls s.heap)
  (hQ:∀h' dd,pJ B (env::outer) a cls dd (rawInt L) h' ->s.heap.UpToSlots h' ->Q () {s with heap:=h'}):wpAny M A (noteFrame (.ref a) env) Q E s:=by
 obtain⟨f1,f2,f3,⟨dd,oe,vs,T,oT,ts,he,⟨rfl,rfl,h2⟩,hd,h1,hB,hne,hT,hdT,h3⟩ | ⟨oe,vs,he,rfl,hd,h1,h2⟩⟩:=x
 ·unfold noteFrame;simp only [hf];refine z6 (wpAny_field he hd h1 ?_);rw[if_pos (by simp)]
  refine z6 (wpAny_field hT hdT h3 ?_);rw[if_neg (by simp [rawInt])]
  refine z6 (wpAny_setField hT hdT (Array.getElem?_eq_some_iff.mp h3).1 ?_);have far:∀b,b≠T ->(s.heap.update T (Obj.mapFields (·.setIfInBounds 3 Value.none))).get? b=s.heap.get? b:=fun b hb=>Heap.get?_update_other _ _ (Ne.symm hb);refine rK (s:={s with heap:=s.heap.update T (Obj.mapFields (·.setIfInBounds 3 Value.none))}) hfr (f3.of_keeps fun b o q n=>⟨o,(far b (Ae hT hdT q n)).trans q,rfl⟩) hf ((far a (Ne.symm hne)).trans he) (fun b o q=>(far b fun z=>by rw[z,hB] at q;cases q).trans (f1 b o q)) f2 hd (Array.getElem?_eq_some_iff.mp h1).1 h2 fun h' w up=> ?_
  exact hQ h' _ w fun b o q n=>up b o ((far b (Ae hT hdT q n)).trans q) n
 ·unfold noteFrame;simp only [hf];refine z6 (wpAny_field he hd h1 ?_);rw[if_neg (by decide)]
  exact rK hfr f3 hf he f1 f2 hd (Array.getElem?_eq_some_iff.mp h1).1 h2 fun h' w up=>hQ h' _ w up
theorem ztk(hfr:A.frames=some (env::outer))(hf:env.frame=some L)(x:Dw B (env::outer) a cls s.heap)
  (hQ:∀h',Dw B outer a cls h' ->s.heap.UpToSlots h' ->Q () {s with heap:=h'}):wpAny M A (leaving env (.ref a)) Q E s:=by
 unfold leaving;refine z6 (zwn hfr hf x fun h1 dd w up=>Dy (s:={s with heap:=h1}) w fun h2 w2 up2=> ?_);obtain⟨k1,k2,⟨_,_,k3⟩,k4⟩:=w2;exact hQ h2 ⟨k1,k2,k3,.inl ⟨dd,k4⟩⟩ (up.trans up2)
end
def gO(P:Program)(w:World):qj:=fun outer H s E e s' =>
 ∃a C H' B,e= .ref a/\s'.os=s.os/\AllBare s'.gens/\Un (frs outer) [] H H' s.heap s'.heap/\gR P w H' s'.heap/\Dw B outer a C s'.heap/\
  (∀b o,s.heap.get? b=some o ->b∉frs outer ->∃o',B.get? b=some o')/\ (∀b u,H' b=some u ->∃o',B.get? b=some o')/\E C none H'
theorem gO.imp(h:gO P w outer H s E e s')(k:∀C dx H',E C dx H' ->E' C dx H'):gO P w outer H s E' e s' :=by
 obtain⟨a,C,H',B,h1,h2,h3,h4,h5,h6,h7,h8,h9⟩:=h;exact⟨a,C,H',B,h1,h2,h3,h4,h5,h6,h7,h8,k _ _ _ h9⟩
section
variable{X:Cx}{pins:bw}{σ:St}{H H' :Hp}{s s' :Shared}{B:Heap}{h' :Heap}
theorem z0a(hok:gR X.prog X.w H' s'.heap)(b1:B.StaysIn s'.heap)(b2:B.StaysIn h')(ug:∀b u,H' b=some u ->∃o',B.get? b=some o'):gR X.prog X.w H' h' :=fun b u e=>
 (hok b u e).stay (fun c v hc q=>by
  have:∃o',B.get? c=some o' :=by
   rcases hc with rfl | hc
   ·exact ug _ _ e
   ·exact ug _ _ hc
  obtain⟨o',e'⟩:=this;have z:=b1 c o' e';rw[q] at z;cases z;exact b2 c _ e') (fun _ q=>q) fun _ _ q=>q
theorem z34(I:Inv X pins σ H s)(hex:X.ex= [])(os:s'.os=s.os)(bare:AllBare s'.gens)(un:Un (frs X.stack) [] H H' s.heap s'.heap)(hok:gR X.prog X.w H' s'.heap)(b1:B.StaysIn s'.heap)(b2:B.StaysIn h')
  (inB:∀b o,s.heap.get? b=some o ->b∉frs X.stack ->∃o',B.get? b=some o') (up:s'.heap.UpToSlots h'):
  Un X.fs [] X.H₀ H' X.s₀.heap h' /\∀b o,X.s₀.heap.get? b=some o ->b∉X.fs ->∃o',B.get? b=some o' :=by
 have I' :Inv X pins σ H' s' :=I.call' os un hok bare (fun b z=>absurd z (by simp))
 have hb:=I'.base;rw[hex] at hb;have hb0:=I.base;rw[hex] at hb0;have Dz:∀b o,X.s₀.heap.get? b=some o ->b∉X.fs ->∃o',B.get? b=some o' :=fun b o e n=>by
  obtain⟨o1,e1⟩:=hb0.there b o e (by simp)
  refine inB b o1 e1 fun z=> ?_;rcases zT.mp (I.stkSub b z) with z | z
  ·exact absurd (zL (zG e) I.ok.above) (by rw[z];exact yV _)
  ·exact n z
 refine⟨⟨fun b o e n hf hx=> ?_,fun b o e n hf hx=> ?_,fun b o e n hx=>hb.free b o e n hx,fun b o e hx=> ?_,hb.tups,hb.lM,hb.mH⟩,Dz⟩
 ·have e1:=hb.keep b o e n hf (by simp)
  obtain⟨o',e'⟩:=Dz b o e hf;have z:=b1 b o' e';rw[e1] at z;cases z;exact b2 b _ e'
 ·obtain⟨sl,e1⟩:=hb.slot b o e n hf (by simp)
  obtain⟨_,o2,e2,nf⟩:=I.ok.funs.mem hf;rw[e] at e2;cases e2;obtain⟨sl',e3⟩:=up b _ e1 nf;exact⟨sl',e3⟩
 ·by_cases hf:b∈X.fs
  ·obtain⟨sl,e1⟩:=hb.slot b o e (I.ok.Ci b hf) hf (by simp)
   obtain⟨_,o2,e2,nf⟩:=I.ok.funs.mem hf;rw[e] at e2;cases e2;obtain⟨sl',e3⟩:=up b _ e1 nf;exact⟨_,e3⟩
  ·obtain⟨o',e'⟩:=Dz b o e hf;exact⟨o',b2 b o' e'⟩
theorem Wg(I:Inv X pins σ H s)(hex:X.ex= [])(hst:X.stack=X.env::X.outer)(hfr:X.env.frame=some X.env.locals)
  (h:gO X.prog X.w X.stack H s E e s'):wpAny (model X.prog X.w) X.A (leaving X.env e) (fun _ s'' =>gO X.prog X.w X.outer X.H₀ X.s₀ E e s'') Eb s' :=by
 obtain⟨a,C,H',B,rfl,os,bare,un,hok,Nr,inB,ug,hE⟩:=h;refine ztk (by rw[I.ok.frames,hst]) hfr (by rw[<- hst];exact Nr) fun h' xK up=> ?_
 obtain⟨un',Dz⟩:=z34 I hex os bare un hok Nr.1 xK.1 inB up;exact⟨a,C,H',B,rfl,os.trans I.os,bare,un',z0a hok Nr.1 xK.1 ug,xK,Dz,ug,hE⟩
end
def nF(K:W.Frag)(C:Addr):Prop:=W.excIn K C [.type "ValueError",.type "Exception",.type "BaseException",.type "object"] "ValueError.__new__" =true
theorem zx9{K:W.Frag}{h:Heap}{C:Addr}(X:K.In h)(q:nF K C):
  ∃bm N nm qn bs hdct sn sub ab col dd k0 k1 k2 k3 k5 mN,h.get? C=some (excClassObj nm qn C N bs bm hdct sn sub ab col dd k0 k1 k2 k3 k5 "ValueError.__new__")/\h.Ns N mN/\mN "__init__" =none/\
   OwnTail h [.type "ValueError",.type "Exception",.type "BaseException",.type "object"] bm:=by
 unfold nF W.excIn at q;split at q
 ·rename_i dd cd sl ho;split at q
  ·rename_i C' bm k0 k1 k2 k3 n k5 hm hs;simp only [Bool.and_eq_true,beq_iff_eq,Bool.not_eq_true'] at q;obtain⟨⟨⟨⟨⟨rfl,rfl⟩,hdel⟩,ht⟩,hok⟩,hni⟩:=q;obtain⟨nm,bs,mro,ns,qn,hd,sn,sub,ab,col,del⟩:=cd;dsimp only at hm hdel hok hni;subst hm hdel;obtain rfl:sl= #[k0,k1,k2,k3,some (.builtin "ValueError.__new__"),k5]:=by
    cases sl;simp only at hs;rw[hs]
   exact⟨bm,ns,nm,qn,bs,hd,sn,sub,ab,col,dd,k0,k1,k2,k3,k5,_,X _ _ ho,.of_isNs (W.isNs_of_in X hok),W.nsMap_none_of_in X hok hni,W.tail_of_in X ht⟩
  ·cases q
 ·cases q
abbrev Nt:List Value:= [.type "ValueError",.type "Exception",.type "BaseException",.type "object"]
def DG(K:W.Frag)(C:Addr):Bool:=match K.lookup C with
 | some ⟨.type "type",_,.cls cd,sl⟩=>(match cd.mro,sl.toList with
  | .ref C' ::bm,[_,_,_,_,some (.builtin n),_]=>C' ==C&&n== "ValueError.__new__" && !cd.hasDel&&W.tailIn K Nt bm
  | _,_=>false)
 | _=>false
def rM(K:W.Frag)(C:Addr):Prop:=DG K C=true
section
variable{X:Cx}{pins:bw}{σ:St}{H:Hp}{s:Shared}
theorem zzv(hl:h.FunFrames base l)(hm:Heap.MadeExcOf h h1 a (.ref C) vs):Dw (W.hideAll h (frs l)) l a (.ref C) h1:=by
 obtain⟨t,he,_,_⟩:=hm.there;refine⟨fun b o q=>hm.keeps b o (W.of_hideAll _ q),?_,?_,.inr ⟨_,_,he,rfl,rfl,rfl,rfl⟩⟩
 ·cases q:(W.hideAll h (frs l)).get? a with
  | none=>rfl
  | some o=>
   have z:=W.of_hideAll _ q;rw[hm.new] at z;cases z
 ·have k:=W.funFrames_hide (as:=frs l) hl fun env he a ha=>List.mem_filterMap.mpr ⟨env,he,ha⟩;exact k.of_keeps fun b o e _=>⟨o,hm.keeps b o e,rfl⟩
theorem zw1{x:Str}{C:Addr}{np cpos pos:Pos}{e:Expr}{es:List Expr}{t:TA}{Q:Flow ->Shared ->Prop}{E:XK}(hg:Gl X x)(hm:X.mg x=some (.ref C))(hC:nF X.K C)(ha:PA X (e::es) t)(hh:X.calm=true)
  (I:Inv X pins σ H s) (h:t σ H fun vs H1=>vs.length<=sizeLine/\E (.ref C) none H1)
  (px:∀H1 s1 e s',Inv X pins σ H1 s1 ->gO X.prog X.w X.stack H1 s1 (fun C' dx H' =>C' = .ref C/\dx=none/\H' =H1/\E (.ref C) none H1) e s' ->X.xe e s')
  (hd:(x==("__debug__" :Str))=false:=by decide) (he:starEach (e::es) X.env=(false,eval e X.env)::starEach es X.env:=by rfl) (hpl:(backTo cpos (starEach es X.env)).any (·.1)=false:=by rfl):
  wpAny (model X.prog X.w) X.A (exec (.Raise (some (.Call (.Name x np) (e::es) [] cpos)) none pos) X.env) Q X.xe s:=by
 obtain⟨bm,N,nm,qn,bs,hdct,sn,sub,ab,col,dd,k0,k1,k2,k3,k5,mN,e1,e2,e3,e4⟩:=zx9 I.mod.Cg hC;refine wpAny_Raise_call_subT (C:=C) (nm:=nm) (q:=qn) (N:=N) (bs:=bs) (bm:=bm) (hdct:=hdct) (sn:=sn) (sub:=sub) (ab:=ab) (col:=col) (dd:=dd) (k0:=k0) (k1:=k1) (k2:=k2) (k3:=k3) (k5:=k5)
  PySem.F.excBase_ValueError (mN:=mN) (e4.hasType PySem.F.excBase_ValueError.hasBase) (I.ok.hd hh) ?_ e3 (K6 I hg hm ⟨rfl,?_⟩ hd)
 ·rw[he];show(false || (backTo cpos (starEach es X.env)).any (·.1))=false
  rw[hpl];rfl
 ·have key:=ha cpos pins s σ H _ I h;rw[he] at key⊢;refine Calls.evalArgs_plain (wpAny_mono key (fun us s2 ⟨vs,H1,I1,r,z,q⟩=>⟨rfl,by rw[<- r.length];exact z,I1.bk _ _ e1,e2.keeps I1.bk,e4.keeps I1.bk,fun h' a hm=> ?_⟩) fun _ _ y=>y)
  refine px H1 s2 _ _ I1 ⟨a,.ref C,H1,W.hideAll s2.heap (frs X.stack),rfl,rfl,I1.bare,Un.kept hm.keeps,I1.hok.kept hm.keeps,zzv I1.stack hm,fun b o e n=>⟨o,W.hideAll_get _ e n⟩,fun b u e=> ?_,rfl,rfl,rfl,q⟩;obtain⟨o,eo⟩:∃o,s2.heap.get? b=some o:=by
   have k:=I1.hok b u e;cases u with
   | lst xs=>obtain⟨_,_,_,_,e⟩:=k;exact⟨_,e⟩
   | tup xs=>obtain⟨_,_,_,o,e,_⟩:=k;exact⟨_,e⟩
   | dK kvs=>obtain⟨_,_,_,_,o,_,_,e,_⟩:=k;exact⟨_,e⟩
   | dT kvs=>obtain⟨_,_,_,_,o,_,_,e,_⟩:=k;exact⟨_,e⟩
   | set S n=>obtain⟨o,_,_,_,e,_⟩:=k;exact⟨_,e⟩
   | ins C dx fs=>obtain⟨_,_,_,e,_⟩:=k;exact⟨_,e⟩
   | own y=>exact k
   | xd fs=>obtain⟨_,⟨_,_,_,e,_⟩,_⟩:=k;exact⟨_,e⟩
   | rng lo hi=>obtain⟨_,_,_,e⟩:=k;exact⟨_,e⟩
   | frz ob u=>obtain⟨e,_⟩:=k;exact⟨_,e⟩
   | vJ ps=>exact⟨_,(show s2.heap.get? b=some _ from k)⟩
   | met f y=>exact⟨_,(show s2.heap.get? b=some _ from k)⟩
   | ext φ=>obtain⟨_,e,_⟩:=k;exact e
  refine⟨o,W.hideAll_get _ eo fun z=> ?_⟩;have:=I1.stkFree b z;rw[e] at this;cases this
end
abbrev G2:=List Slot
abbrev XW:=G2 ->Value ->Prop
abbrev aH:=G2 ->(D ->G2 ->Prop) ->XW ->Prop
abbrev aZ:=G2 ->(List D ->G2 ->Prop) ->XW ->Prop
abbrev TT2:=G2 ->(Bool ->G2 ->Prop) ->XW ->Prop
structure jV where
 nx:G2 ->Prop
 rt:D ->Prop
 bk:G2 ->Prop:=fun _=>False
 ct:G2 ->Prop:=fun _=>False
 rf:D ->Prop:=fun _=>False
 rT:T ->Prop:=fun _=>False
 rm:D ->G2 ->Prop:=fun _ _=>False
abbrev au:=jV ->G2 ->XW ->Prop
open Classical in
noncomputable def pK (F0 F:Hp):Hp:=fun b=>if∃w,LD w/\F0 b=some w then none else F b
section
variable(K:W.Frag)(F0 H0:Hp)
def xM(t:aH)(E:XW):TE:=fun σ H Q=>∃F Γ P,SR K F0 H0 F H σ Γ/\t Γ P E/\∀d Γ' F' H' v,SR K F0 H0 F' H' σ Γ' ->Same F F' ->Rep K F' d v ->P d Γ' ->Q v H'
def DK(t:TT2)(E:XW):TT:=fun σ H Q=>∃F Γ P,SR K F0 H0 F H σ Γ/\t Γ P E/\∀b Γ' F' H',SR K F0 H0 F' H' σ Γ' ->Same F F' ->P b Γ' ->Q b H'
def DN(t:aZ)(E:XW):TA:=fun σ H Q=>∃F Γ P,SR K F0 H0 F H σ Γ/\t Γ P E/\∀ds Γ' F' H' vs,SR K F0 H0 F' H' σ Γ' ->Same F F' ->ak K F' ds vs ->P ds Γ' ->Q vs H'
def Wh(t:aZ)(E:XW):TE:=fun σ H Q=>∃F Γ P,SR K F0 H0 F H σ Γ/\t Γ P E/\∀ds Γ' F' H' a vs,SR K F0 H0 F' H' σ Γ' ->Same F F' ->H' a=some (.lst vs) ->F' a=none ->H0 a=none ->ak K F' ds vs ->Apart σ Γ' a ->P ds Γ' ->Q (.ref a) H'
structure qm (F:Hp) (D2:jV) (D:Ends):Prop where
 nx:∀Γ F' H σ,SR K F0 H0 F' H σ Γ ->Same F F' ->D2.nx Γ ->D.nx σ H
 bk:∀Γ F' H σ,SR K F0 H0 F' H σ Γ ->Same F F' ->D2.bk Γ ->D.bk σ H
 ct:∀Γ F' H σ,SR K F0 H0 F' H σ Γ ->Same F F' ->D2.ct Γ ->D.ct σ H
 rt:∀d v F' H,Gr F0 H0 F' H ->Rep K F' d v ->D2.rt d ->D.rt v H
 rf:∀d v F' H,Gr F0 H0 F' H ->Rep K (pK F0 F') d v ->D2.rf d ->D.rt v H
 rT:∀t v as F' H,Gr F0 H0 F' H ->as.Nodup ->(∀a∈as,F' a=none/\H0 a=none) ->TR K F' H t v as ->D2.rT t ->D.rt v H
 rm:∀d v Γ F' H σ,SR K F0 H0 F' H σ Γ ->Rep K F' d v ->D2.rm d Γ ->D.rt v H
def Iv(t:au)(E:XW):TS:=fun D σ H=>∃F Γ D2,SR K F0 H0 F H σ Γ/\t D2 Γ E/\qm K F0 H0 F D2 D
end
theorem qm.mono{K:W.Frag}{F0 H0 F F' :Hp}{D2:jV}{D:Ends}(k:qm K F0 H0 F D2 D)(s:Same F F'):qm K F0 H0 F' D2 D:=
 ⟨fun Γ F1 H σ R s1 h=>k.nx Γ F1 H σ R (s.trans s1) h,fun Γ F1 H σ R s1 h=>k.bk Γ F1 H σ R (s.trans s1) h,fun Γ F1 H σ R s1 h=>k.ct Γ F1 H σ R (s.trans s1) h,k.rt,k.rf,k.rT,k.rm⟩
structure Wi where
 xe:bG
 pn:bw
abbrev _root_.L2.Cx.wsh(X:Cx)(z:Wi):Cx:={X with xe:=z.xe,pn:=z.pn}
structure Ctx (X:Cx) (F0 H0:Hp) (E:XW):Prop where
 pX:∀pins σ Γ F H s e s',Inv X pins σ H s ->SR X.K F0 H0 F H σ Γ ->gO X.prog X.w X.stack H s (fun C dx H' =>∃Γ' F',SR X.K F0 H0 F' H' σ Γ' /\Same F F' /\E Γ' C/\dx=none) e s' ->X.xe e s'
 po:PassesOwn (model X.prog X.w) X.A X.env X.xe
theorem Ctx.px(cx:Ctx X F0 H0 E)(pins:bw)(σ:St)(Γ:G2)(F H:Hp)(s:Shared)(e:Value)(s' :Shared)(I:Inv X pins σ H s)(R:SR X.K F0 H0 F H σ Γ)(hx:gO X.prog X.w X.stack H s (fun C dx H' =>E Γ C/\dx=none/\Same H H') e s'):X.xe e s' :=
 cx.pX pins σ Γ F H s e s' I R (hx.imp fun _ _ H' ⟨h1,h2,h3⟩=>⟨Γ,F,R.grow ⟨.refl _,R.g.trans h3,h3,fun b o e n=>by rw[e] at n;cases n⟩,.refl _,h1,h2⟩)
def QE(X:Cx)(F0 H0:Hp)(e:Expr)(t:aH):Prop:=∀z E,Ctx (X.wsh z) F0 H0 E ->PE (X.wsh z) e (xM X.K F0 H0 t E)
def QF(X:Cx)(F0 H0:Hp)(e:Expr)(t:aZ):Prop:=∀z E,Ctx (X.wsh z) F0 H0 E ->PE (X.wsh z) e (Wh X.K F0 H0 t E)
def QT(X:Cx)(F0 H0:Hp)(e:Expr)(t:TT2):Prop:=∀z E,Ctx (X.wsh z) F0 H0 E ->PT (X.wsh z) e (DK X.K F0 H0 t E)
def QW(X:Cx)(F0 H0:Hp)(e:Expr)(t:TT2):Prop:=∀z E,Ctx (X.wsh z) F0 H0 E ->PW (X.wsh z) e (DK X.K F0 H0 t E)
def QA(X:Cx)(F0 H0:Hp)(es:List Expr)(t:aZ):Prop:=∀z E,Ctx (X.wsh z) F0 H0 E ->PA (X.wsh z) es (DN X.K F0 H0 t E)
def QS(X:Cx)(F0 H0:Hp)(st:Stmt)(t:au):Prop:=∀z E,Ctx (X.wsh z) F0 H0 E ->PS (X.wsh z) st (Iv X.K F0 H0 t E)
def pL(X:Cx)(F0 H0:Hp)(st:List Stmt)(t:au):Prop:=∀z E,Ctx (X.wsh z) F0 H0 E ->qW (X.wsh z) st (Iv X.K F0 H0 t E)
section
variable{X:Cx}{e:Expr}{es:List Expr}{st:Stmt}{sts:List Stmt}
theorem jL(h:PE X e t)(hi:∀σ H Q,t' σ H Q ->t σ H Q):PE X e t' :=fun pins s σ H Q I q=>h pins s σ H Q I (hi _ _ _ q)
theorem DP(h:PT X e t)(hi:∀σ H Q,t' σ H Q ->t σ H Q):PT X e t' :=fun pins s σ H Q I q=>h pins s σ H Q I (hi _ _ _ q)
theorem Wj(h:PA X es t)(hi:∀σ H Q,t' σ H Q ->t σ H Q):PA X es t' :=fun p pins s σ H Q I q=>h p pins s σ H Q I (hi _ _ _ q)
theorem mK(h:PS X st t)(hi:∀D σ H,t' D σ H ->t D σ H):PS X st t' :=fun pins s σ H D I q=>h pins s σ H D I (hi _ _ _ q)
theorem DQ(h:qW X sts t)(hi:∀D σ H,t' D σ H ->t D σ H):qW X sts t' :=fun pins s σ H D I q=>h pins s σ H D I (hi _ _ _ q)
end
section
variable{X:Cx}{F0 H0:Hp}{a b c e:Expr}{es:List Expr}{pos:Pos}{ta tb tc te:aH}
def cC(d:D):aH:=fun Γ P _=>P d Γ
theorem Nu(h:∀z,PE (X.wsh z) e (tC v))(r:∀F,Rep X.K F d v):QE X F0 H0 e (cC d):=fun z E cx=>
 jL (h z) fun σ H Q hq1=>by obtain⟨F,Γ,P,R,h,k⟩:=hq1;exact k _ _ _ _ _ R (.refl _) (r F) h
theorem bh{i j pos}:QE X F0 H0 (.Constant (.int i) j pos) (cC (.int i)):=Nu (fun _=>UW) fun _=>by unfold Rep;rfl
theorem Wk{i j pos}:QE X F0 H0 (.Constant (.bool i) j pos) (cC (.bl i)):=Nu (fun _=>z5w) fun _=>by unfold Rep;rfl
theorem Iw{x j pos}:QE X F0 H0 (.Constant (.str x) j pos) (cC (.str x)):=Nu (fun _=>z4d) fun _=>by unfold Rep;rfl
def cV(i:Nat):aH:=fun Γ P _=>match Γ[i]? with
 | some (.pu d)=>P d Γ
 | some (.ow ds)=>P (.lst ds) (Γ.set i (.pu (.lst ds)))
 | _=>False
theorem z3x(hN:X.N[i]?=some x)(hv:oO X.env.scope x)(hd:(x==("__debug__" :Str))=false:=by decide)(hcd:(x==("__classdict__" :Str))=false:=by decide):QE X F0 H0 (.Name x pos) (cV i):=fun z E cx=>
 jL (rD (X:=X.wsh z) (i:=i) hN hv hd hcd) fun σ H Q hq2=>by
  obtain⟨F,Γ,P,R,h,k⟩:=hq2;unfold cV at h;split at h
  ·rename_i d e;obtain⟨o,e1,v,rfl,r⟩:=R.sl i _ e;exact⟨v,e1,k d Γ F H v R (.refl _) r h⟩
  ·rename_i ds e;obtain⟨a,F',e1,s1,R',r⟩:=R.frz e;exact⟨.ref a,e1,k _ _ F' H _ R' s1 r h⟩
  ·exact h.elim
def lX(K:W.Frag)(g:D ->D ->(D ->Prop) ->Prop):R2:=fun x y H Q=>∃F d1 d2 P,Same F H/\Rep K F d1 x/\Rep K F d2 y/\g d1 d2 P/\∀d z F' H',Gr F H F' H' ->Rep K F' d z ->P d ->Q z H'
def cB(g:D ->D ->(D ->Prop) ->Prop)(ta tb:aH):aH:=fun Γ P E=>ta Γ (fun d1 Γ1=>tb Γ1 (fun d2 Γ2=>g d1 d2 fun d=>P d Γ2) E) E
theorem Iz{K:W.Frag}{g:D ->D ->(D ->Prop) ->Prop}{E:XW}{σ:St}{H:Hp}{Q:VK}(h:xM K F0 H0 (cB g ta tb) E σ H Q):CK (lX K g) (xM K F0 H0 ta E) (xM K F0 H0 tb E) σ H Q:=by
 obtain⟨F,Γ,P,R,h,k⟩:=h;refine⟨F,Γ,_,R,h,fun d1 Γ1 F1 H1 v1 R1 s1 r1 h1=>⟨F1,Γ1,_,R1,h1,fun d2 Γ2 F2 H2 v2 R2 s2 r2 h2=>⟨F2,d1,d2,_,R2.g,r1.up s2,r2,h2,fun d z F' H' gr rz hp=> ?_⟩⟩⟩;exact k d Γ2 F' H' z (R2.grow gr) (s1.trans (s2.trans gr.f)) rz hp
theorem bA(ho:∀z,gJ (X.wsh z) (binaryOp op) (lX X.K g))(ha:QE X F0 H0 a ta)(hb:QE X F0 H0 b tb):QE X F0 H0 (.BinOp a op b pos) (cB g ta tb):=fun z E cx=>
 jL (Vf (ho z) (ha z E cx) (hb z E cx)) fun _ _ _ h=>Iz h
theorem qp(ho:∀z,gJ (X.wsh z) (compareOp op) (lX X.K g))(ha:QE X F0 H0 a ta)(hb:QE X F0 H0 b tb)(hm:behindInMarks op b=false):QE X F0 H0 (.Compare a [op] [b] pos) (cB g ta tb):=fun z E cx=>
 jL (z2d (ho z) (ha z E cx) (hb z E cx) hm) fun _ _ _ h=>Iz h
def cT(t:aH):TT2:=fun Γ P E=>t Γ (fun d Γ' =>match d with | .bl c=>P c Γ' | _=>False) E
theorem Wl{K:W.Frag}{E:XW}{σ:St}{H:Hp}{Q:Bool ->Hp ->Prop}(h:DK K F0 H0 (cT te) E σ H Q):xM K F0 H0 te E σ H fun x H' =>∃c,x= .bl c/\Q c H' :=by
 obtain⟨F,Γ,P,R,h,k⟩:=h;refine⟨F,Γ,_,R,h,fun d Γ' F' H' v R' s' r q=> ?_⟩;cases d with
 | bl c=>
  unfold Rep at r;exact⟨c,r,k c Γ' F' H' R' s' q⟩
 | _=>exact False.elim q
theorem jM(ho:∀z,gJ (X.wsh z) (compareOp op) (lX X.K g))(ha:QE X F0 H0 a ta)(hb:QE X F0 H0 b tb)(hm:behindInMarks op b=false):QT X F0 H0 (.Compare a [op] [b] pos) (cT (cB g ta tb)):=fun z E cx=>
 DP (z1r (ho z) (ha z E cx) (hb z E cx) hm) fun σ H Q h=>Iz (Wl h)
theorem Nv(h:QE X F0 H0 e te)(he:∀whole,isTrue e X.env whole=(do let v<- whole;standAt e.pos;holding [v] (truthy v)):=by intro _;rfl):QT X F0 H0 e (cT te):=fun z E cx=>
 DP (z2z (X:=X.wsh z) (h z E cx) he) fun _ _ _ h=>Wl h
def Nx(t u:TT2):TT2:=fun Γ P E=>t Γ (fun c Γ' =>if c=true then u Γ' P E else P false Γ') E
def cOr(t u:TT2):TT2:=fun Γ P E=>t Γ (fun c Γ' =>if c=true then P true Γ' else u Γ' P E) E
def xO(t:TT2):TT2:=fun Γ P E=>t Γ (fun c Γ' =>P (!c) Γ') E
variable{rest:List Expr}{tA tB' :TT2}
theorem z2k(ha:QT X F0 H0 a tA):QT X F0 H0 (.UnaryOp .Not a pos) (xO tA):=fun z E cx=>
 DP (z2l (ha z E cx)) fun σ H Q qX=>by obtain⟨F,Γ,P,R,h,k⟩:=qX;exact⟨F,Γ,_,R,h,fun c Γ1 F1 H1 R1 s1 q=>k _ _ _ _ R1 s1 q⟩
def pN(ta tb:aH):aH:=fun Γ P E=>ta Γ (fun d Γ' =>match d with | .bl true=>tb Γ' P E | .bl false=>P (.bl false) Γ' | _=>False) E
def xP(ta tb:aH):aH:=fun Γ P E=>ta Γ (fun d Γ' =>match d with | .bl false=>tb Γ' P E | .bl true=>P (.bl true) Γ' | _=>False) E
def DR(ta:aH):aH:=fun Γ P E=>ta Γ (fun d Γ' =>match d with | .bl c=>P (.bl (!c)) Γ' | _=>False) E
theorem Ny{op}(h:QE X F0 H0 a ta):QE X F0 H0 (.BoolOp op [a] pos) ta:=fun z E cx=>z2p (h z E cx)
theorem Wm(ha:QE X F0 H0 a ta)(hb:QE X F0 H0 (.BoolOp .And (b::rest) pos) tb):QE X F0 H0 (.BoolOp .And (a::b::rest) pos) (pN ta tb):=fun z E cx=>
 jL (z3n (ha z E cx) (hb z E cx)) fun σ H Q xQ=>by obtain⟨F,Γ,P,R,h,k⟩:=xQ;exact⟨F,Γ,_,R,h,fun d Γ1 F1 H1 v R1 s1 r q=>by
  cases d with
  | bl c=>
   unfold Rep at r;refine⟨c,r,?_⟩;cases c with
   | true=>rw[if_pos rfl];exact⟨F1,Γ1,P,R1,q,fun d Γ2 F2 H2 v R2 s2 r p=>k d Γ2 F2 H2 v R2 (s1.trans s2) r p⟩
   | false=>rw[if_neg Bool.false_ne_true];exact k _ _ _ _ _ R1 s1 (by unfold Rep;rfl) q
  | _=>exact False.elim q⟩
theorem z44(ha:QE X F0 H0 a ta)(hb:QE X F0 H0 (.BoolOp .Or (b::rest) pos) tb):QE X F0 H0 (.BoolOp .Or (a::b::rest) pos) (xP ta tb):=fun z E cx=>
 jL (z5q (ha z E cx) (hb z E cx)) fun σ H Q uN=>by obtain⟨F,Γ,P,R,h,k⟩:=uN;exact⟨F,Γ,_,R,h,fun d Γ1 F1 H1 v R1 s1 r q=>by
  cases d with
  | bl c=>
   unfold Rep at r;refine⟨c,r,?_⟩;cases c with
   | false=>rw[if_neg Bool.false_ne_true];exact⟨F1,Γ1,P,R1,q,fun d Γ2 F2 H2 v R2 s2 r p=>k d Γ2 F2 H2 v R2 (s1.trans s2) r p⟩
   | true=>rw[if_pos rfl];exact k _ _ _ _ _ R1 s1 (by unfold Rep;rfl) q
  | _=>exact False.elim q⟩
def IK(t:TT2)(ta tb:aH):aH:=fun Γ P E=>t Γ (fun c Γ' =>if c=true then ta Γ' P E else tb Γ' P E) E
theorem Wn(hc:QT X F0 H0 c tA)(ha:QE X F0 H0 a ta)(hb:QE X F0 H0 b tb):QE X F0 H0 (.IfExp c a b pos) (IK tA ta tb):=fun z E cx=>
 jL (zw2 (hc z E cx) (ha z E cx) (hb z E cx)) fun σ H Q Nz=>by obtain⟨F,Γ,P,R,h,k⟩:=Nz;exact⟨F,Γ,_,R,h,fun c Γ1 F1 H1 R1 s1 q=>by
  cases c with
  | true=>rw[if_pos rfl] at q⊢;exact⟨F1,Γ1,P,R1,q,fun d Γ2 F2 H2 v R2 s2 r p=>k d Γ2 F2 H2 v R2 (s1.trans s2) r p⟩
  | false=>rw[if_neg Bool.false_ne_true] at q⊢;exact⟨F1,Γ1,P,R1,q,fun d Γ2 F2 H2 v R2 s2 r p=>k d Γ2 F2 H2 v R2 (s1.trans s2) r p⟩⟩
def aq:aZ:=fun Γ P _=>P [] Γ
def aj(t:aH)(u:aZ):aZ:=fun Γ P E=>t Γ (fun d Γ1=>u Γ1 (fun ds Γ2=>P (d::ds) Γ2) E) E
theorem aM:QA X F0 H0 [] aq:=fun z E cx=>Wj Vk fun σ H Q xR=>by obtain⟨F,Γ,P,R,h,k⟩:=xR;exact k _ _ _ _ _ R (.refl _) (by unfold ak;rfl) h
theorem aA(ha:QE X F0 H0 e te)(hr:QA X F0 H0 es tr)(hs:starEach (e::es) X.env=(false,eval e X.env)::starEach es X.env:=by rfl):QA X F0 H0 (e::es) (aj te tr):=fun z E cx=>
 Wj (Vl (X:=X.wsh z) (ha z E cx) (hr z E cx) hs) fun σ H Q ⟨F,Γ,P,R,h,k⟩=>
  ⟨F,Γ,_,R,h,fun d Γ1 F1 H1 v1 R1 s1 r1 h1=>⟨F1,Γ1,_,R1,h1,fun ds Γ2 F2 H2 vs R2 s2 r2 h2=>k _ _ _ _ _ R2 (s1.trans s2) (oW (r1.up s2) r2) h2⟩⟩
def jN(t:aZ):aH:=fun Γ P E=>t Γ (fun ds Γ1=>ds.length<=sizeLine/\P (.tup ds) Γ1) E
theorem ur{x1}(h:QA X F0 H0 es t):QE X F0 H0 (.Tuple es x1 pos) (jN t):=fun z E cx=>
 jL (z4a (h z E cx)) fun σ H Q wV=>by obtain⟨F,Γ,P,R,h,k⟩:=wV;exact⟨F,Γ,_,R,h,fun ds Γ1 F1 H1 vs R1 s1 r1 h1=>⟨by rw[<- gM r1];exact h1.1,fun p hp=>by
  have gr:=Gr.laid (o:=HO.tup vs) R1.g hp;refine k _ _ _ _ _ (R1.grow gr) (s1.trans gr.f) ?_ h1.2;unfold Rep;exact⟨p,vs,rfl,.inl (.inl lV),r1.up gr.f⟩⟩⟩
def gk(t:aZ):aZ:=fun Γ P E=>t Γ (fun ds Γ1=>ds.length<=sizeLine/\P ds Γ1) E
theorem vO{K:W.Frag}{F H:Hp}{σ:St}{Γ:G2}{p:Addr}{vs:List V}{ds:List D}(R:SR K F0 H0 F H σ Γ)(hp:H p=none)(r:ak K F ds vs):
  SR K F0 H0 F (L2.upd H p (.lst vs)) σ Γ/\ (L2.upd H p (.lst vs)) p=some (.lst vs)/\F p=none/\H0 p=none/\Apart σ Γ p:=by
 refine⟨?_,lV,R.g.free hp,R.gr.h.free hp,R.apart hp⟩;refine R.grow ⟨.refl _,fun b u e=> ?_,fun b u e=> ?_,fun b o e n=>by rw[e] at n;cases n⟩
 ·rw[c7 (lG (R.g b u e) hp)];exact R.g b u e
 ·rw[c7 (lG e hp)];exact e
theorem oX{t:aZ}(h:QA X F0 H0 es t):QF X F0 H0 (.List es pos) (gk t):=fun z E cx=>
 jL (z2q (h z E cx)) fun σ H Q rE=>by obtain⟨F,Γ,P,R,h,k⟩:=rE;exact⟨F,Γ,_,R,h,fun ds Γ1 F1 H1 vs R1 s1 r1 h1=>⟨by rw[<- gM r1];exact h1.1,fun p hp=>by
  obtain⟨R2,e1,e2,e3,ap⟩:=vO R1 hp r1;exact k ds Γ1 F1 _ p vs R2 s1 e1 e2 e3 r1 ap h1.2⟩⟩
def dg(t:aZ):aH:=fun Γ P E=>t Γ (fun ds Γ1=>P (.lst ds) Γ1) E
theorem eE(h:QF X F0 H0 e t):QE X F0 H0 e (dg t):=fun z E cx=>
 jL (h z E cx) fun σ H Q rF=>by obtain⟨F,Γ,P,R,h,k⟩:=rF;exact⟨F,Γ,_,R,h,fun ds Γ1 F1 H1 a vs R1 s1 e1 e2 e3 r1 ap h1=>by
  obtain⟨s2,_⟩:=Nq R1.g e1 e2;refine k _ _ _ _ _ (R1.frzA e1 e2 e3 ap) (s1.trans s2) ?_ h1;unfold Rep;exact⟨a,vs,rfl,.inl (.inl lV),r1.up s2⟩⟩
variable{st:Stmt}{sts:List Stmt}{t u:au}
def cN:au:=fun D Γ _=>D.nx Γ
def aC(t u:au):au:=fun D Γ E=>t {D with nx:=fun Γ' =>u D Γ' E} Γ E
theorem nG:pL X F0 H0 [] cN:=fun z E cx=>DQ zz9 fun D σ H NK=>by obtain⟨F,Γ,D2,R,h,k⟩:=NK;exact k.nx _ _ _ _ R (.refl _) h
theorem bC(h1:QS X F0 H0 st t)(h2:pL X F0 H0 sts u):pL X F0 H0 (st::sts) (aC t u):=fun z E cx=>
 DQ (zv9 (h1 z E cx) (h2 z E cx)) fun D σ H NP=>by obtain⟨F,Γ,D2,R,h,k⟩:=NP;exact⟨F,Γ,_,R,h,⟨fun Γ' F' H' σ' R' s' q=>⟨F',Γ',D2,R',q,k.mono s'⟩,k.bk,k.ct,k.rt,k.rf,k.rT,k.rm⟩⟩
theorem bU(h1:QS X F0 H0 st t):pL X F0 H0 [st] t:=fun z E cx=>z1z (h1 z E cx)
def aaF:au:=fun D Γ _=>D.bk Γ
def aaG:au:=fun D Γ _=>D.ct Γ
def DW(te:aH):au:=fun D Γ E=>te Γ (fun _ Γ1=>D.nx Γ1) E
def bN(te:aH):au:=fun D Γ E=>te Γ (fun d _=>D.rt d) E
theorem gq(he:QE X F0 H0 e te):QS X F0 H0 (.Return (some e) pos) (bN te):=fun z E cx=>
 mK (U6 (he z E cx)) fun D σ H NQ=>by obtain⟨F,Γ,D2,R,h,k⟩:=NQ;exact⟨F,Γ,_,R,h,fun d Γ1 F1 H1 v R1 s1 r1 h1=>k.rt _ _ _ _ R1.gr r1 h1⟩
def DX:au:=fun D _ _=>D.rt .non
def fP(c:TT2)(t u:au):au:=fun D Γ E=>c Γ (fun b Γ1=>if b=true then t D Γ1 E else u D Γ1 E) E
theorem nH(hc:QT X F0 H0 c tA)(ha:pL X F0 H0 x t)(hb:pL X F0 H0 y u):QS X F0 H0 (.If c x y pos) (fP tA t u):=fun z E cx=>
 mK (z5u (hc z E cx) (ha z E cx) (hb z E cx)) fun D σ H NT=>by obtain⟨F,Γ,D2,R,h,k⟩:=NT;exact⟨F,Γ,_,R,h,fun c Γ1 F1 H1 R1 s1 q=>by
  cases c with
  | true=>rw[if_pos rfl] at q⊢;exact⟨F1,Γ1,D2,R1,q,k.mono s1⟩
  | false=>rw[if_neg Bool.false_ne_true] at q⊢;exact⟨F1,Γ1,D2,R1,q,k.mono s1⟩⟩
def NZ:au:=fun _ _ _=>False
def aO(i:Nat)(te:aH):au:=fun D Γ E=>te Γ (fun d Γ1=>D.nx (Γ1.set i (.pu d))) E
theorem dO(hN:X.N.Nodup)(hi:X.N[i]?=some x)(hx:Loc X.env.scope x)(he:QE X F0 H0 e te)(hs:swapsWith e (some (.Name x pos')) pos.line X.env=pure false:=by rfl)
  (hf:X.fn x=true\/X.env.scope.names.lookup x=some .local:=by first | exact .inl rfl | exact .inr rfl):QS X F0 H0 (.Assign [.Name x pos'] e pos) (aO i te):=fun z E cx=>
 mK (Lj (X:=X.wsh z) (i:=i) hN hi hx (he z E cx) hs hf) fun D σ H N5=>by obtain⟨F,Γ,D2,R,h,k⟩:=N5;exact⟨F,Γ,_,R,h,fun d Γ1 F1 H1 v R1 s1 r1 h1=>k.nx _ _ _ _ (R1.set i r1) s1 h1⟩
def iR(i:Nat)(t:aZ):au:=fun D Γ E=>t Γ (fun ds Γ1=>D.nx (Γ1.set i (.ow ds))) E
theorem DY(hN:X.N.Nodup)(hi:X.N[i]?=some x)(hx:Loc X.env.scope x)(he:QF X F0 H0 e tf)(hs:swapsWith e (some (.Name x pos')) pos.line X.env=pure false:=by rfl)
  (hf:X.fn x=true\/X.env.scope.names.lookup x=some .local:=by first | exact .inl rfl | exact .inr rfl):QS X F0 H0 (.Assign [.Name x pos'] e pos) (iR i tf):=fun z E cx=>
 mK (Lj (X:=X.wsh z) (i:=i) hN hi hx (he z E cx) hs hf) fun D σ H N6=>by obtain⟨F,Γ,D2,R,h,k⟩:=N6;exact⟨F,Γ,_,R,h,fun ds Γ1 F1 H1 a vs R1 s1 e1 e2 e3 r1 ap h1=>k.nx _ _ _ _ (R1.setOw i e1 e2 e3 r1 ap) s1 h1⟩
end
end L3
namespace L3
open PySem PySem.Spec PyProof.Rows L2
abbrev jD:=D ->G2 ->(G2 ->Prop) ->XW ->Prop
abbrev lN:=List D ->G2 ->(G2 ->Prop) ->XW ->Prop
section
variable(K:W.Frag)(F0 H0:Hp)
def IV(g:jD)(E:XW):TG:=fun v σ H Q=>∃F Γ P d,SR K F0 H0 F H σ Γ/\Rep K F d v/\g d Γ P E/\∀Γ' F' H' σ',SR K F0 H0 F' H' σ' Γ' ->Same F F' ->P Γ' ->Q σ' H'
def N7(g:lN)(E:XW):uO:=fun vs σ H Q=>∃F Γ P ds,SR K F0 H0 F H σ Γ/\ak K F ds vs/\g ds Γ P E/\∀Γ' F' H' σ',SR K F0 H0 F' H' σ' Γ' ->Same F F' ->P Γ' ->Q σ' H'
end
def QG(X:Cx)(F0 H0:Hp)(e:Expr)(g:jD):Prop:=∀z E,Ctx (X.wsh z) F0 H0 E ->PG (X.wsh z) e (IV X.K F0 H0 g E)
def IW(X:Cx)(F0 H0:Hp)(es:List Expr)(g:lN):Prop:=∀z E,Ctx (X.wsh z) F0 H0 E ->wW (X.wsh z) es (N7 X.K F0 H0 g E)
section
variable{X:Cx}{F0 H0:Hp}{e tg:Expr}{es:List Expr}{pos:Pos}{te:aH}{g:jD}{gs:lN}
theorem Wo(h:PG X e t)(hi:∀v σ H Q,t' v σ H Q ->t v σ H Q):PG X e t' :=fun pins s σ H v u Q I r q=>h pins s σ H v u Q I r (hi _ _ _ _ q)
theorem Ea(h:wW X es t)(hi:∀v σ H Q,t' v σ H Q ->t v σ H Q):wW X es t' :=fun pins s σ H v u Q I r q=>h pins s σ H v u Q I r (hi _ _ _ _ q)
def hName(i:Nat):jD:=fun d Γ Q _=>Q (Γ.set i (.pu d))
theorem cO(hN:X.N.Nodup)(hi:X.N[i]?=some x)(hx:Loc X.env.scope x)(hf:X.fn x=true\/X.env.scope.names.lookup x=some .local:=by first | exact .inl rfl | exact .inr rfl):QG X F0 H0 (.Name x pos) (hName i):=fun z E cx=>
 Wo (z0m (X:=X.wsh z) (i:=i) hN hi hx hf) fun v σ H Q hq1=>by obtain⟨F,Γ,P,d,R,r,h,k⟩:=hq1;exact k _ _ _ _ (R.set i r) (.refl _) h
def iC:lN:=fun ds Γ Q _=>ds= []/\Q Γ
def aW(g:jD)(gs:lN):lN:=fun ds Γ Q E=>match ds with | d::r=>g d Γ (fun Γ' =>gs r Γ' Q E) E | []=>False
theorem qY:IW X F0 H0 [] iC:=fun z E cx=>Ea z2b fun vs σ H Q hq2=>by
 obtain⟨F,Γ,P,ds,R,r,h,k⟩:=hq2;obtain⟨rfl,h⟩:=h;unfold ak at r;exact⟨r,k _ _ _ _ R (.refl _) h⟩
theorem iI(h1:QG X F0 H0 e g)(h2:IW X F0 H0 es gs)(hs:(assignEach (e::es) X.env).map (·.2)=assign e X.env::(assignEach es X.env).map (·.2):=by rfl):IW X F0 H0 (e::es) (aW g gs):=fun z E cx=>
 Ea (zxd (X:=X.wsh z) (h1 z E cx) (h2 z E cx) hs) fun vs σ H Q rN=>by
  obtain⟨F,Γ,P,ds,R,r,h,k⟩:=rN;cases ds with
  | nil=>exact False.elim h
  | cons d ds=>
   unfold ak at r;obtain⟨v,us,rfl,r1,r2⟩:=r;exact⟨v,us,rfl,F,Γ,_,d,R,r1,h,fun Γ1 F1 H1 σ1 R1 s1 q=>⟨F1,Γ1,P,ds,R1,r2.up s1,q,fun Γ2 F2 H2 σ2 R2 s2 p=>k _ _ _ _ R2 (s1.trans s2) p⟩⟩
def iD(n:Nat)(gs:lN):jD:=fun d Γ Q E=>match d with | .tup ds=>ds.length=n/\gs ds Γ Q E | _=>False
theorem qZ(hc:X.calm=true)(h:IW X F0 H0 es gs)(hn:(assignEach es X.env).length=n:=by rfl)(hst:(assignEach es X.env).findIdx? (·.1)=none:=by rfl):QG X F0 H0 (.Tuple es k pos) (iD n gs):=fun z E cx=>
 Wo (z4h (X:=X.wsh z) (n:=n) hc (h z E cx) hn hst) fun v σ H Q oY=>by
  obtain⟨F,Γ,P,d,R,r,h,k⟩:=oY;cases d with
  | tup ds=>
   unfold Rep at r;obtain⟨a,vs,rfl,hq,rs⟩:=r;exact⟨a,vs,rfl,lH R.g hq,by rw[<- gM rs];exact h.1,F,Γ,P,ds,R,rs,h.2,k⟩
  | _=>exact False.elim h
def xU(te:aH)(g:jD):au:=fun D Γ E=>te Γ (fun d Γ1=>g d Γ1 D.nx E) E
theorem z3l(he:QE X F0 H0 e te)(hg:QG X F0 H0 tg g)(hs:swapsWithSole [tg] e pos.line X.env=pure false:=by rfl)(hw:swappedStores [tg] e X.env=pure none:=by rfl)
  (h1:(assignEach [tg] X.env).map (·.2)= [assign tg X.env]:=by rfl):QS X F0 H0 (.Assign [tg] e pos) (xU te g):=fun z E cx=>
 mK (U8 (X:=X.wsh z) (he z E cx) (hg z E cx) hs hw h1) fun D σ H qX=>by obtain⟨F,Γ,D2,R,h,k⟩:=qX;exact⟨F,Γ,_,R,h,fun d Γ1 F1 H1 v R1 s1 r1 h1=>⟨F1,Γ1,_,d,R1,r1,h1,fun Γ2 F2 H2 σ2 R2 s2 p=>k.nx _ _ _ _ R2 (s1.trans s2) p⟩⟩
def xV(i j:Nat)(t:aZ):au:=fun D Γ E=>t Γ (fun ds Γ1=>match ds with | [x,y]=>D.nx ((Γ1.set i (.pu x)).set j (.pu y)) | _=>False) E
theorem z3b{kt k2 wX}(hc:X.calm=true)(hN:X.N.Nodup)(hi:X.N[i]?=some x)(hj:X.N[j]?=some y)(hij:i≠j)
  (hx:X.env.scope.names.lookup x=some .local) (hy:X.env.scope.names.lookup y=some .local) (ha:QA X F0 H0 [a,b] t)
  (hw:swappedStores [.Tuple [.Name x px,.Name y py] kt pt] (.Tuple [a,b] k2 wX) X.env=pure (some [x,y])) (hs:swapsWithSole [.Tuple [.Name x px,.Name y py] kt pt] (.Tuple [a,b] k2 wX) pos.line X.env=pure false:=by rfl):
  QS X F0 H0 (.Assign [.Tuple [.Name x px,.Name y py] kt pt] (.Tuple [a,b] k2 wX) pos) (xV i j t):=fun z E cx=>
 mK (z2h (X:=X.wsh z) (i:=i) (j:=j) hc hN hi hj hij hx hy (ha z E cx) hw hs) fun D σ H xQ=>by obtain⟨F,Γ,D2,R,h,k⟩:=xQ;exact⟨F,Γ,_,R,h,fun ds Γ1 F1 H1 vs R1 s1 r1 h1=>by
  match ds,r1,h1 with
  | [d1,d2],r1,h1=>
   unfold ak ak ak at r1;obtain⟨v1,_,rfl,q1,v2,_,rfl,q2,rfl⟩:=r1;exact⟨v1,v2,rfl,k.nx _ _ _ _ ((R1.set i q1).set j q2) s1 h1⟩
  | [],_,h1=>exact False.elim h1
  | [_],_,h1=>exact False.elim h1
  | _::_::_::_,_,h1=>exact False.elim h1⟩
def oZ(c:TT2)(tb:au):au:=fun D Γ E=>∃W:Nat ->G2 ->Prop,(∃m,W m Γ)/\∀m Γ,W m Γ ->
 c Γ (fun b Γ1=>if b=true then tb {D with nx:=fun Γ' =>∃m',m' <m/\W m' Γ',ct:=fun Γ' =>∃m',m' <m/\W m' Γ',bk:=D.nx} Γ1 E else D.nx Γ1) E
theorem Wq(hc:QT X F0 H0 c tc)(hb:pL X F0 H0 body tb):QS X F0 H0 (.While c body [] pos) (oZ tc tb):=fun z E cx=>
 mK (zv4 cx.po (hc z E cx) (hb z E cx)) fun D σ H uN=>by
  obtain⟨F,Γ,D2,R,⟨W,⟨m,w0⟩,turn⟩,k⟩:=uN;refine⟨fun m σ H=>∃F1 Γ1,SR X.K F0 H0 F1 H σ Γ1/\Same F F1/\W m Γ1,⟨m,F,Γ,R,.refl _,w0⟩,fun m σ H ⟨F1,Γ1,R1,s1,w1⟩=>⟨F1,Γ1,_,R1,turn m Γ1 w1,fun b Γ2 F2 H2 R2 s2 q=> ?_⟩⟩;cases b with
  | true=>
   rw[if_pos rfl] at q⊢;refine⟨fun σ' H' =>∃m',m' <m/\∃F3 Γ3,SR X.K F0 H0 F3 H' σ' Γ3/\Same F F3/\W m' Γ3,fun σ' H' z=>z,F2,Γ2,_,R2,q,⟨fun Γ3 F3 H3 σ3 R3 s3 ⟨m',l,w3⟩=>⟨m',l,F3,Γ3,R3,s1.trans (s2.trans s3),w3⟩,fun Γ3 F3 H3 σ3 R3 s3 p=>k.nx _ _ _ _ R3 (s1.trans (s2.trans s3)) p,
    fun Γ3 F3 H3 σ3 R3 s3 ⟨m',l,w3⟩=>⟨m',l,F3,Γ3,R3,s1.trans (s2.trans s3),w3⟩,k.rt,k.rf,k.rT,k.rm⟩⟩
  | false=>
   rw[if_neg Bool.false_ne_true] at q⊢;exact k.nx _ _ _ _ R2 (s1.trans s2) q
def N8(K:W.Frag)(tl:TE):TI:=fun σ H R=>tl σ H fun x H1=>∃a,x= .ref a/\ (((∃xs,fO K H1 a xs)/\R (wZ K a) H1)\/ ((∃xs,iK K H1 a xs)/\R (vM K a) H1))
theorem z23(hl:PE X l tl):PI X tg l (N8 X.K tl):=by
 intro pins s σ H R I h;refine bF (hl pins s σ H _ I h) fun v s1 Nz=> ?_;obtain⟨x,H1,I1,r1,q1⟩:=Nz;obtain⟨a,e,q⟩:=q1;subst e;cases r1;rcases q with ⟨⟨xs,hq⟩,q⟩ | ⟨⟨xs,hq⟩,q⟩
 ·obtain⟨its,rv,p,hz⟩:=I1.list hq;refine wpAny_pyIter_list p.isList ?_;refine⟨s1.heap.objs.size,[s1.heap.objs.size],_,_,H1,rfl,I1.kept (t' :=s1.toks) fun b o e=>zZ _ e,Va a _,⟨_,zY _ rfl,rfl,rfl⟩,fun b hb=> ?_,q⟩;obtain rfl:b=s1.heap.objs.size:=by simpa using hb
  exact I1.fpOk (zM _) (I1.hok.fresh (zM _))
 ·obtain⟨its,rv,p,hz⟩:=I1.tuple hq;refine wpAny_pyIter_tuple (show s1.heap.IsTuple a its.toArray from p) ?_;refine⟨s1.heap.objs.size,[s1.heap.objs.size],_,_,H1,rfl,I1.kept (t' :=s1.toks) fun b o e=>zZ _ e,Vb a _,⟨_,zY _ rfl,rfl,rfl⟩,fun b hb=> ?_,q⟩;obtain rfl:b=s1.heap.objs.size:=by simpa using hb
  exact I1.fpOk (zM _) (I1.hok.fresh (zM _))
def jW(ds:List D)(g:jD)(tb:au)(D0:jV)(E:XW)(Γ:G2):Prop:=∃I:Nat ->G2 ->Prop,I 0 Γ/\
 (∀(i:Nat) x Γ,ds[i]?=some x ->I i Γ ->g x Γ (fun Γ' =>tb {D0 with nx:=I (i+1),ct:=I (i+1),bk:=D0.nx} Γ' E) E)/\∀Γ,I ds.length Γ ->D0.nx Γ
def jX(te:aH)(g:jD)(tb:au):au:=fun D0 Γ E=>te Γ (fun d Γ1=>match d with | .lst ds=>jW ds g tb D0 E Γ1 | .tup ds=>jW ds g tb D0 E Γ1 | _=>False) E
theorem uw(hc:X.calm=true)(hi:QE X F0 H0 iter te)(hg:QG X F0 H0 tg g)(hb:pL X F0 H0 body tb)(hs:∀x,foldedSetIterable iter X.env x=pure x:=by intro _;rfl):
  QS X F0 H0 (.For tg iter body [] pos) (jX te g tb):=fun z E cx=>
 mK (Ik (X:=X.wsh z) cx.po hc (z23 (hi z E cx)) (hg z E cx) (hb z E cx) hs) fun Dn σ H xR=>by obtain⟨F,Γ,D2,R,h,k⟩:=xR;exact⟨F,Γ,_,R,h,fun d Γ1 F1 H1 v R1 s1 r1 h1=>by
  have body:∀(ds:List L3.D) (vs:List V),ak X.K F1 ds vs ->∀I:Nat ->G2 ->Prop,(∀(i:Nat) x Γ,ds[i]?=some x ->I i Γ ->g x Γ (fun Γ' =>tb {D2 with nx:=I (i+1),ct:=I (i+1),bk:=D2.nx} Γ' E) E) ->
    ∀(i:Nat) x σ H,vs[i]?=some x ->(∃F2 Γ2,SR X.K F0 H0 F2 H σ Γ2/\Same F1 F2/\I i Γ2) ->IV X.K F0 H0 g E x σ H fun σ2 H2=>Iv X.K F0 H0 tb E {Dn with nx:=fun σ H=>∃F2 Γ2,SR X.K F0 H0 F2 H σ Γ2/\Same F1 F2/\I (i+1) Γ2,ct:=fun σ H=>∃F2 Γ2,SR X.K F0 H0 F2 H σ Γ2/\Same F1 F2/\I (i+1) Γ2,bk:=Dn.nx} σ2 H2:=by
   rintro ds vs rs I turn i x σ H hx ⟨F2,Γ2,R2,s2,hI⟩;obtain⟨d,hd,rd⟩:=Wa rs hx;exact⟨F2,Γ2,_,d,R2,rd.up s2,turn i d Γ2 hd hI,fun Γ3 F3 H3 σ3 R3 s3 p=>⟨F3,Γ3,{D2 with nx:=I (i+1),ct:=I (i+1),bk:=D2.nx},R3,p,⟨fun Γ4 F4 H4 σ4 R4 s4 q=>⟨F4,Γ4,R4,s2.trans (s3.trans s4),q⟩,fun Γ4 F4 H4 σ4 R4 s4 q=>k.nx _ _ _ _ R4 (s1.trans (s2.trans (s3.trans s4))) q,
    fun Γ4 F4 H4 σ4 R4 s4 q=>⟨F4,Γ4,R4,s2.trans (s3.trans s4),q⟩,k.rt,k.rf,k.rT,k.rm⟩⟩⟩
  cases d with
  | lst ds=>
   unfold Rep at r1;obtain⟨a,vs,rfl,hq,rs⟩:=r1;obtain⟨I,i0,turn,done⟩:=h1;refine⟨a,rfl,.inl ⟨⟨vs,R1.g.seq hq⟩,zwd (xs:=vs) (fun i σ H=>∃F2 Γ2,SR X.K F0 H0 F2 H σ Γ2/\Same F1 F2/\I i Γ2) ⟨F1,Γ1,R1,.refl _,i0⟩ (fun i σ H _ ⟨F2,Γ2,R2,s2,_⟩=>R2.g.seq (s2.seq hq)) (body ds vs rs I turn) ?_⟩⟩;rintro σ H ⟨F2,Γ2,R2,s2,hI⟩;exact k.nx _ _ _ _ R2 (s1.trans s2) (done _ (by rw[gM rs];exact hI))
  | tup ds=>
   unfold Rep at r1;obtain⟨a,vs,rfl,hq,rs⟩:=r1;obtain⟨I,i0,turn,done⟩:=h1;refine⟨a,rfl,.inr ⟨⟨vs,lH R1.g hq⟩,zzs (xs:=vs) (fun i σ H=>∃F2 Γ2,SR X.K F0 H0 F2 H σ Γ2/\Same F1 F2/\I i Γ2) ⟨F1,Γ1,R1,.refl _,i0⟩ (fun i σ H _ ⟨F2,Γ2,R2,s2,_⟩=>lH R2.g (lH s2 hq)) (body ds vs rs I turn) ?_⟩⟩;rintro σ H ⟨F2,Γ2,R2,s2,hI⟩;exact k.nx _ _ _ _ R2 (s1.trans s2) (done _ (by rw[gM rs];exact hI))
  | _=>exact False.elim h1⟩
def rO(lo:Int)(n:Nat)(g:jD)(tb:au)(D0:jV)(E:XW)(Γ:G2):Prop:=∃I:Nat ->G2 ->Prop,I 0 Γ/\
 (∀(i:Nat) Γ,i<n ->I i Γ ->g (.int (lo+i)) Γ (fun Γ' =>tb {D0 with nx:=I (i+1),ct:=I (i+1),bk:=D0.nx} Γ' E) E)/\∀Γ,I n Γ ->D0.nx Γ
theorem Wr{K:W.Frag}{F1 H1:Hp}{Γ1:G2}{σ:St}{lo:Int}{n:Nat}{tb:au}{D2:jV}{D:Ends}{E:XW}(R1:SR K F0 H0 F1 H1 σ Γ1)(h:rO lo n g tb D2 E Γ1)(k:qm K F0 H0 F1 D2 D):
  ∃W:Nat ->Nat ->St ->Hp ->Prop,(∃m,W 0 m σ H1)/\∀i m σ H,W i m σ H ->((uh lo n).stop i H/\D.nx σ H)\/ ((uh lo n).go i H/\∃N:St ->Hp ->Prop,(∀σ' H',N σ' H' ->∃m',m' <m/\W (i+1) m' σ' H')/\
   ∀x H',(uh lo n).yld i H x H' ->IV K F0 H0 g E x σ H' fun σ2 H2=>Iv K F0 H0 tb E {D with nx:=N,ct:=N,bk:=D.nx} σ2 H2):=by
 obtain⟨I,i0,turn,done⟩:=h;refine zt5 (lo:=lo) (n:=n) (fun i σ H=>∃F2 Γ2,SR K F0 H0 F2 H σ Γ2/\Same F1 F2/\I i Γ2) ⟨F1,Γ1,R1,.refl _,i0⟩ ?_ ?_
 ·rintro i σ H hi ⟨F2,Γ2,R2,s2,hI⟩;exact⟨F2,Γ2,_,.int (lo+i),R2,by unfold Rep;rfl,turn i Γ2 hi hI,fun Γ3 F3 H3 σ3 R3 s3 p=>⟨F3,Γ3,_,R3,p,⟨fun Γ4 F4 H4 σ4 R4 s4 q=>⟨F4,Γ4,R4,s2.trans (s3.trans s4),q⟩,fun Γ4 F4 H4 σ4 R4 s4 q=>k.nx _ _ _ _ R4 (s2.trans (s3.trans s4)) q,
   fun Γ4 F4 H4 σ4 R4 s4 q=>⟨F4,Γ4,R4,s2.trans (s3.trans s4),q⟩,k.rt,k.rf,k.rT,k.rm⟩⟩⟩
 ·rintro σ H ⟨F2,Γ2,R2,s2,hI⟩;exact k.nx _ _ _ _ R2 s2 (done _ hI)
def lY(t:aZ)(g:jD)(tb:au):au:=fun D0 Γ E=>t Γ (fun ds Γ1=>match ds with | [.int j]=>(-(2^62)<=j/\j<2^62)/\rO 0 j.toNat g tb D0 E Γ1 | _=>False) E
theorem Ec(hc:X.calm=true)(Oa:Gl X "range")(hm:X.mg "range" =none)(ha:QA X F0 H0 [a] t)(hg:QG X F0 H0 tg g)(hb:pL X F0 H0 body tb)
  (hst:starEach [a] X.env= [(false,eval a X.env)]:=by rfl) (hs:∀x,foldedSetIterable (.Call (.Name "range" p) [a] [] pc) X.env x=pure x:=by intro _;rfl):QS X F0 H0 (.For tg (.Call (.Name "range" p) [a] [] pc) body [] pos) (lY t g tb):=fun z E cx=>
 mK (Ik (X:=X.wsh z) cx.po hc (zs3 Oa hm (ha z E cx) hst) (hg z E cx) (hb z E cx) hs) fun D σ H rE=>by obtain⟨F,Γ,D2,R,h,k⟩:=rE;exact⟨F,Γ,_,R,h,fun ds Γ1 F1 H1 vs R1 s1 r1 h1=>by
  split at h1
  ·rename_i j;unfold ak ak Rep at r1;obtain⟨v,_,rfl,rfl,rfl⟩:=r1;exact⟨j,rfl,h1.1.1,h1.1.2,Wr R1 h1.2 (k.mono s1)⟩
  ·exact False.elim h1⟩
def vP(t:aZ)(g:jD)(tb:au):au:=fun D0 Γ E=>t Γ (fun ds Γ1=>match ds with | [.int i,.int j]=>(-(2^62)<=i/\i<2^62/\ -(2^62)<=j/\j<2^62)/\rO i (j - i).toNat g tb D0 E Γ1 | _=>False) E
theorem z1j(hc:X.calm=true)(Oa:Gl X "range")(hm:X.mg "range" =none)(ha:QA X F0 H0 [a,b] t)(hg:QG X F0 H0 tg g)(hb:pL X F0 H0 body tb)
  (hst:starEach [a,b] X.env= [(false,eval a X.env),(false,eval b X.env)]:=by rfl) (hst2:starEach [b] X.env= [(false,eval b X.env)]:=by rfl) (hs:∀x,foldedSetIterable (.Call (.Name "range" p) [a,b] [] pc) X.env x=pure x:=by intro _;rfl):QS X F0 H0 (.For tg (.Call (.Name "range" p) [a,b] [] pc) body [] pos) (vP t g tb):=fun z E cx=>
 mK (Ik (X:=X.wsh z) cx.po hc (zu8 Oa hm (ha z E cx) hst hst2) (hg z E cx) (hb z E cx) hs) fun D σ H rF=>by obtain⟨F,Γ,D2,R,h,k⟩:=rF;exact⟨F,Γ,_,R,h,fun ds Γ1 F1 H1 vs R1 s1 r1 h1=>by
  split at h1
  ·rename_i i j;unfold ak ak ak Rep at r1;obtain⟨v,_,rfl,rfl,v2,_,rfl,rfl,rfl⟩:=r1;exact⟨i,j,rfl,h1.1,Wr R1 h1.2 (k.mono s1)⟩
  ·exact False.elim h1⟩
def Ob(lo st:Int)(n:Nat):It:=⟨fun i _=>i<n,fun i H x H' =>H' =H/\x= .int (lo+i*st),fun i _=>n<=i⟩
def Ws(ta:TA):TI:=fun σ H R=>ta σ H fun vs H1=>∃(i j k:Int) (n:Nat),vs= [.int i,.int j,.int k]/\k≠0/\k.natAbs<1073741824/\Builtin.Range.small i j k=true/\Builtin.Range.rangeSize i j k=(n:Int)/\R (Ob i k n) H1
def Oc(lo st:Int)(n:Nat)(g:jD)(tb:au)(D0:jV)(E:XW)(Γ:G2):Prop:=∃I:Nat ->G2 ->Prop,I 0 Γ/\
 (∀(i:Nat) Γ,i<n ->I i Γ ->g (.int (lo+i*st)) Γ (fun Γ' =>tb {D0 with nx:=I (i+1),ct:=I (i+1),bk:=D0.nx} Γ' E) E)/\∀Γ,I n Γ ->D0.nx Γ
def Wt(t:aZ)(g:jD)(tb:au):au:=fun D0 Γ E=>t Γ (fun ds Γ1=>match ds with
 | [.int i,.int j,.int k]=>∃n:Nat,k≠0/\k.natAbs<1073741824/\Builtin.Range.small i j k=true/\Builtin.Range.rangeSize i j k=(n:Int)/\Oc i k n g tb D0 E Γ1
 | _=>False) E
end
abbrev cj:=List D ->(D ->Prop) ->(Value ->Prop) ->Prop
def jO(K:W.Frag)(sp:cj):Sp:=fun vs H Q E=>∃F ds P Ex,Same F H/\ak K F ds vs/\sp ds P Ex/\ (∀d v F' H',Gr F H F' H' ->Rep K F' d v ->P d ->Q v H')/\∀C H',Ex C ->Same H H' ->E C none H'
def aD(sp:cj)(t:aZ):aH:=fun Γ P E=>t Γ (fun ds Γ1=>sp ds (fun d=>P d Γ1) fun C=>E Γ1 C) E
section
variable{X:Cx}{F0 H0:Hp}{e:Expr}{es:List Expr}{pos p:Pos}{x:Str}{f:Addr}{fd:FuncData}{ps:List Str}{k:Nat}{sp:cj}{t:aZ}
theorem Od(Fn:d7 X.prog X.w X.K X.mg X.base (gO X.prog X.w) k f fd ps (jO X.K sp))(hr:eU k X.A)(hb:Binds X.K fd ps [])(cx:Ctx (X.wsh z) F0 H0 E)
  (I:Inv (X.wsh z) pins σ H s) (R:SR X.K F0 H0 F H σ Γ) (r:Vals vs us) (rs:ak X.K F ds vs) (h:sp ds P fun C=>E Γ C) (hQ:∀d v F' H',Gr F H F' H' ->Rep X.K F' d v ->P d ->Q v H'):
  wpAny (model X.prog X.w) X.A (call (.ref f) us) (EP (X.wsh z) pins σ Q) z.xe s:=by
 have hs:jO X.K sp vs H Q (fun C dx H' =>E Γ C/\dx=none/\Same H H'):=⟨F,ds,P,_,R.g,rs,h,hQ,fun C H' hE hS=>⟨hE,rfl,hS⟩⟩;have hl:(us++ []).length=ps.length:=by rw[List.append_nil,<- r.length];exact Fn.len _ _ _ _ hs
 have hbs:=hb s us I.kIn hl;rw[List.append_nil] at hbs;refine wpAny_call (codeAny_mono (Fn.run X.A X.stack s H ⟨us,[]⟩ us vs Q _ hr I.env0 hbs r hs) fun r s' hq=> ?_);cases r with
 | error e=>exact cx.px pins σ Γ F H s e s' I R hq
 | ok fl=>
  cases fl with
  | ret u=>exact I.after hq
  | next=>exact False.elim hq
  | brk=>exact False.elim hq
  | cont=>exact False.elim hq
theorem z0w(Fn:d7 X.prog X.w X.K X.mg X.base (gO X.prog X.w) k f fd ps (jO X.K sp))(hr:eU k X.A)(hg:Gl X x)(hm:X.mg x=some (.ref f))(hk:W.keepIn X.K (.ref f)=true)(hb:Binds X.K fd ps [])
  (ha:QA X F0 H0 (e::es) t) (hdb:(x==("__debug__" :Str))=false:=by decide) (he:starEach (e::es) X.env=(false,eval e X.env)::starEach es X.env:=by rfl) (hpl:(backTo pos (starEach es X.env)).any (·.1)=false:=by rfl):
  QE X F0 H0 (.Call (.Name x p) (e::es) [] pos) (aD sp t):=by
 rintro z E cx pins s σ H Q I ⟨F,Γ,P,R,h,kk⟩;refine wpAny_Call_Name_kw (K6 (X:=X.wsh z) I hg hm ?_ hdb);refine W.callWith_K (h₀:=X.base) I.ok.mod.Cg hk (bF (ha z E cx pos pins s σ H (fun vs H1=>∃F1 Γ1 ds,SR X.K F0 H0 F1 H1 σ Γ1/\Same F F1/\ak X.K F1 ds vs/\sp ds (fun d=>P d Γ1) fun C=>E Γ1 C) I ⟨F,Γ,_,R,h,fun ds Γ1 F1 H1 vs R1 s1 r1 h1=>⟨F1,Γ1,ds,R1,s1,r1,h1⟩⟩) fun us s1 rP=> ?_) he hpl;obtain⟨vs,H1,I1,r,F1,Γ1,ds,R1,sF,rs,q⟩:=rP;refine⟨I1.kIn,?_⟩;exact Od Fn hr hb cx I1 R1 r rs q fun d v F' H' gr rv hp=>kk d Γ1 F' H' v (R1.grow gr) (sF.trans gr.f) rv hp
end
def aJ(n:Nat)(ds:List D):G2:=ds.map .pu++List.replicate (n - ds.length) .no
abbrev gA(N:List Str)(ds:List D):G2:=aJ N.length ds
theorem Wu{K:W.Frag}{F0 H:Hp}{N:List Str}{ds:List D}{vs:List V}(h:Same F0 H)(r:ak K F0 ds vs):SR K F0 H F0 H (L2.start N vs) (gA N ds):=by
 have hl:=gM r;refine⟨Gr.refl h,by simp [L2.start,gA,aJ,hl],fun i s e=> ?_,fun i j a e _=> ?_⟩
 ·unfold gA aJ at e;unfold L2.start;by_cases hi:i<ds.length
  ·rw[List.getElem?_append_left (by simpa using hi),List.getElem?_map] at e
   cases q:ds[i]? with
   | none=>rw[q] at e;cases e
   | some d=>
    rw[q] at e;cases e;obtain⟨v,e1,r1⟩:=nD r q;refine⟨some v,?_,v,rfl,r1⟩;rw[List.getElem?_append_left (by rw[List.length_map,<- hl];exact hi),List.getElem?_map,e1];rfl
  ·rw[List.getElem?_append_right (by simpa using hi),List.getElem?_replicate] at e
   split at e
   ·cases e;rename_i hlt;simp only [List.length_map] at hlt;refine⟨none,?_,trivial⟩;rw[List.getElem?_append_right (by rw[List.length_map,<- hl];omega),List.getElem?_replicate,if_pos (by rw[List.length_map,<- hl];exact hlt)]
   ·cases e
 ·exfalso
  obtain⟨s,o,e,_,hs⟩:=e;unfold gA aJ at e;by_cases hi:i<ds.length
  ·rw[List.getElem?_append_left (by simpa using hi),List.getElem?_map] at e
   cases q:ds[i]? with
   | none=>rw[q] at e;cases e
   | some d=>rw[q] at e;cases e;exact hs
  ·rw[List.getElem?_append_right (by simpa using hi),List.getElem?_replicate] at e
   split at e
   ·cases e;exact hs
   ·cases e
section
variable{P:Program}{w:World}{K:W.Frag}{mg:Str ->Option Value}{base:Heap}
theorem iT{x qual:Str}{st:Stmt}{f:Addr}{fd:FuncData}{N ps:List Str}{k:Nat}{sp:cj}(Fn:fK K x qual st f fd)(S:aB N ps (bM st))(len:∀ds Q E,sp ds Q E ->ds.length=ps.length)
  (hbody:∀(cdv:Value) (A:Around) (outer:List Env) (s:Shared) (H:Hp) (E:XK),eU k (A.deeper (envOfC qual (bM st) s.heap.objs.size f cdv)) ->∀F0:Hp,
   ∃t,pL (jK (gO P w) P w K mg base N qual (bM st) f cdv A outer s H E) F0 H (rG st) t/\∀ds Q Ex,sp ds Q Ex ->t {nx:=fun _=>Q .non,rt:=Q} (gA N ds) fun _=>Ex):
  d7 P w K mg base (gO P w) (k+1) f fd ps (jO K sp):=by
 obtain⟨oc,od,kV,doc,pm,an,cdv,ct,osl,rfl,lk,hcd⟩:=Fn.ex;refine Vw lk hcd S (fun vs H Q E ⟨F,ds,P',Ex,_,rs,hs,_⟩=>by rw[<- gM rs];exact len _ _ _ hs) fun A outer s H vs Q E hr ⟨F0,ds,Pd,Ex,sF,rs,hsp,hQ,hE⟩=> ?_
 obtain⟨t,ht,hq⟩:=hbody cdv A outer s H E hr F0;have cx:Ctx ((jK (gO P w) P w K mg base N qual (bM st) f cdv A outer s H E).wsh ⟨(jK (gO P w) P w K mg base N qual (bM st) f cdv A outer s H E).xe,[]⟩) F0 H (fun _=>Ex):=by
  refine⟨fun pins σ Γ F H1 s1 e s' I R hx=> ?_,PassesOwn.leaving⟩;refine bF (Wg (E:=fun C dx H' =>E C dx H') I rfl rfl rfl (hx.imp fun C dx H' z=> ?_)) fun _ s'' z=>z;obtain⟨Γ',F',R',_,z1,rfl⟩:=z;exact hE C H' z1 R'.gr.h
 exact⟨_,ht _ _ cx,F0,gA N ds,{nx:=fun _=>Pd .non,rt:=Pd},Wu sF rs,hq ds Pd Ex hsp,⟨fun Γ F' H' σ R' _ q=>hQ _ _ _ _ R'.gr (by unfold Rep;rfl) q,fun _ _ _ _ _ _ q=>q,fun _ _ _ _ _ _ q=>q,fun d v F' H' gr rv q=>hQ d v F' H' gr rv q,fun _ _ _ _ _ _ q=>q.elim,fun _ _ _ _ _ _ _ _ _ q=>q.elim,fun _ _ _ _ _ _ _ _ q=>q.elim⟩⟩
end
def bD(i:Int):Nat:=Builtin.Int.intBits i
theorem zzx(h:bD i+bD j<=100000000):IntMulOk i j:=by
 unfold bD at h;unfold IntMulOk;intro z;simp only [Bool.and_eq_true,decide_eq_true_eq] at z;have z2:=z.2;unfold Builtin.Int.intTooBig at z2;have hb:bitsLine=134217728:=by rfl
 rw[hb] at z2;have:=of_decide_eq_true z2;omega
theorem gU(h:i.natAbs<2^k):bD i<=k:=by
 unfold bD Builtin.Int.intBits;split
 ·exact Nat.zero_le _
 ·rename_i q;have n0:i.natAbs≠0:=fun z=>by
   have:i=0:=Int.natAbs_eq_zero.mp z;subst this;exact q rfl
  have:=(Nat.log2_lt n0).mpr h;omega
theorem xW(h:bD i<=k):i.natAbs<2^k:=by
 unfold bD Builtin.Int.intBits at h;split at h
 ·rename_i q;have:i=0:=by simpa using q
  subst this;exact Nat.two_pow_pos k
 ·rename_i q;have n0:i.natAbs≠0:=fun z=>by
   have:i=0:=Int.natAbs_eq_zero.mp z;subst this;exact q rfl
  exact(Nat.log2_lt n0).mp (by omega)
theorem vQ(i j:Int):bD (i*j)<=bD i+bD j:=by
 refine gU ?_;rw[Int.natAbs_mul,Nat.pow_add];exact Nat.mul_lt_mul'' (xW (zM _)) (xW (zM _))
theorem Oe(i j:Int):bD (i+j)<=max (bD i) (bD j)+1:=by
 refine gU ?_;have h1:i.natAbs<2^ (max (bD i) (bD j)):=xW (Nat.le_max_left _ _);have h2:j.natAbs<2^ (max (bD i) (bD j)):=xW (Nat.le_max_right _ _);have h3:=Int.natAbs_add_le i j;rw[Nat.pow_succ];omega
theorem z1h(i:Int):bD (-i)=bD i:=by unfold bD Builtin.Int.intBits;simp
theorem Wv(i j:Int):bD (i - j)<=max (bD i) (bD j)+1:=by
 have h:=Oe i (-j);rw[z1h,<- Int.sub_eq_add_neg] at h;exact h
theorem vR(h:i.natAbs<=j.natAbs):bD i<=bD j:=gU (zK h (xW (zM _)))
section
variable{X:Cx}
theorem Ja{f:Value ->Value ->Sem Value}{C:Int ->Int ->Prop}{v:Int ->Int ->V}{d:Int ->Int ->D}{g:D ->D ->(D ->Prop) ->Prop}(ho:gJ X f (rI C v))(hg:∀x y P,g x y P ->∃i j,x= .int i/\y= .int j/\C i j/\P (d i j))(hd:∀i j F,Rep X.K F (d i j) (v i j)):gJ X f (lX X.K g):=by
 rintro pins s σ H x y u w Q I rx ry ⟨F,d1,d2,P,sF,r1,r2,h,k⟩;obtain⟨i,j,rfl,rfl,hc,hp⟩:=hg _ _ _ h;unfold Rep at r1 r2;subst r1 r2;exact ho pins s σ H _ _ u w Q I rx ry ⟨i,j,rfl,rfl,hc,k _ _ F H (Gr.refl sF) (hd i j F) hp⟩
theorem Og{f:Value ->Value ->Sem Value}{v:Int ->Int ->V}{d:Int ->Int ->D}{g:D ->D ->(D ->Prop) ->Prop}(ho:gJ X f (w6 v))(hg:∀x y P,g x y P ->∃i j,x= .int i/\y= .int j/\P (d i j))(hd:∀i j F,Rep X.K F (d i j) (v i j)):gJ X f (lX X.K g):=by
 rintro pins s σ H x y u w Q I rx ry ⟨F,d1,d2,P,sF,r1,r2,h,k⟩;obtain⟨i,j,rfl,rfl,hp⟩:=hg _ _ _ h;unfold Rep at r1 r2;subst r1 r2;exact ho pins s σ H _ _ u w Q I rx ry ⟨i,j,rfl,rfl,k _ _ F H (Gr.refl sF) (hd i j F) hp⟩
def wI(C:Int ->Int ->Prop)(d:Int ->Int ->D):D ->D ->(D ->Prop) ->Prop:=fun x y P=>match x,y with
 | .int i,.int j=>C i j/\P (d i j)
 | _,_=>False
theorem Jb(h:wI C d x y P):∃i j,x= .int i/\y= .int j/\C i j/\P (d i j):=by
 unfold wI at h;split at h
 ·exact⟨_,_,rfl,rfl,h⟩
 ·exact h.elim
def vU(d:Int ->Int ->D):D ->D ->(D ->Prop) ->Prop:=fun x y P=>match x,y with
 | .int i,.int j=>P (d i j)
 | _,_=>False
theorem Oh(h:vU d x y P):∃i j,x= .int i/\y= .int j/\P (d i j):=by
 unfold vU at h;split at h
 ·exact⟨_,_,rfl,rfl,h⟩
 ·exact h.elim
def fu:D ->D ->(D ->Prop) ->Prop:=fun x y P=>match x,y with
 | .int i,.int j=>P (.int (i+j))
 | .str i,.str j=>i.length+j.length<=sizeLine/\P (.str (i++j))
 | _,_=>False
theorem zdt:gJ X (binaryOp .Add) (lX X.K fu):=by
 rintro pins s σ H x y u w Q I rx ry ⟨F,d1,d2,P,sF,r1,r2,h,k⟩;unfold fu at h;split at h
 ·unfold Rep at r1 r2;subst r1 r2;exact z3t pins s σ H _ _ u w Q I rx ry ⟨_,_,rfl,rfl,k _ _ F H (Gr.refl sF) (by unfold Rep;rfl) h⟩
 ·unfold Rep at r1 r2;subst r1 r2;exact zrd pins s σ H _ _ u w Q I rx ry ⟨_,_,rfl,rfl,h.1,k _ _ F H (Gr.refl sF) (by unfold Rep;rfl) h.2⟩
 ·exact h.elim
def nu:D ->D ->(D ->Prop) ->Prop:=vU fun i j=> .int (i - j)
theorem Jc:gJ X (binaryOp .Sub) (lX X.K nu):=Og z2y (fun _ _ _ h=>Oh h) fun _ _ _=>by unfold Rep;rfl
def o7(i j:Int):Prop:=bD i<=64\/bD j<=64\/bD i+bD j<=100000000
theorem o7.ok(h:o7 i j):IntMulOk i j:=by
 rcases h with h | h | h
 ·exact .of_left h
 ·exact .of_right h
 ·exact zzx h
def cJ:D ->D ->(D ->Prop) ->Prop:=wI o7 fun i j=> .int (i*j)
theorem ji:gJ X (binaryOp .Mult) (lX X.K cJ):=Ja (C:=o7) (v:=fun i j=> .int (i*j)) (Im fun i j _ _ _ _ _ hc q=>mul_int q hc.ok) (fun _ _ _ h=>Jb h) fun _ _ _=>by unfold Rep;rfl
def iU:D ->D ->(D ->Prop) ->Prop:=wI (fun _ j=>j≠0/\bD j<=9000) fun i j=> .int (i.fdiv j)
theorem rA:gJ X (binaryOp .FloorDiv) (lX X.K iU):=Ja (C:=fun _ j=>j≠0/\bD j<=9000) (v:=fun i j=> .int (i.fdiv j)) (Im fun i j _ _ _ _ _ hc q=>floordiv_int hc.1 q (.inl (PyProof.noPylong_of_log2 (by
 have:=xW hc.2;exact(Nat.log2_lt (fun z=>hc.1 (Int.natAbs_eq_zero.mp z))).mpr this)))) (fun _ _ _ h=>Jb h) fun _ _ _=>by unfold Rep;rfl
def cY:D ->D ->(D ->Prop) ->Prop:=wI (fun _ j=>j≠0) fun i j=> .int (i.fmod j)
theorem jE:gJ X (binaryOp .Mod) (lX X.K cY):=Ja (C:=fun _ j=>j≠0) z0k (fun _ _ _ h=>Jb h) fun _ _ _=>by unfold Rep;rfl
def uY:D ->D ->(D ->Prop) ->Prop:=wI uQ fun i j=> .int (i^j.toNat)
theorem Ww:gJ X (binaryOp .Pow) (lX X.K uY):=Ja z2n (fun _ _ _ h=>Jb h) fun _ _ _=>by unfold Rep;rfl
def Ed:D ->D ->(D ->Prop) ->Prop:=vU fun i j=> .bl (decide (i<j))
theorem xX:gJ X (compareOp .Lt) (lX X.K Ed):=Og z48 (fun _ _ _ h=>Oh h) fun _ _ _=>by unfold Rep;rfl
def gLe:D ->D ->(D ->Prop) ->Prop:=vU fun i j=> .bl (decide (i<=j))
def Af:D ->D ->(D ->Prop) ->Prop:=vU fun i j=> .bl (decide (j<i))
theorem uZ:gJ X (compareOp .Gt) (lX X.K Af):=Og z5s (fun _ _ _ h=>Oh h) fun _ _ _=>by unfold Rep;rfl
def gGe:D ->D ->(D ->Prop) ->Prop:=vU fun i j=> .bl (decide (j<=i))
def rQ:D ->Bool | .non=>true | _=>false
def gIs:D ->D ->(D ->Prop) ->Prop:=fun x y P=>match y with | .non=>P (.bl (rQ x)) | .bl d=>(match x with | .bl c=>P (.bl (c==d)) | _=>False) | _=>False
def Oi:D ->D ->(D ->Prop) ->Prop:=fun x y P=>match y with | .non=>P (.bl (!rQ x)) | .bl d=>(match x with | .bl c=>P (.bl (c !=d)) | _=>False) | _=>False
mutual
def bR:D ->D ->Bool
 | .non,.non=>true
 | .bl a,.bl b=>a==b
 | .int a,.int b=>a==b
 | .str a,.str b=>a==b
 | .tup xs,.tup ys=>bY xs ys
 | .lst xs,.lst ys=>bY xs ys
 | .exc a,.exc b=>a==b
 | .ptr a,.ptr b=>a==b
 | .obj C fs xs,.obj C' fs' ys=>decide (C=C')&&decide (fs=fs')&&bY xs ys
 | .dic ks xs,.dic ks' ys=>decide (ks=ks')&&bY xs ys
 | .gK ks xs,.gK ks' ys=>decide (ks=ks')&&bY xs ys
 | .dik ks xs,.dik ks' ys=>decide (ks=ks')&&bY xs ys
 | _,_=>false
def bY:List D ->List D ->Bool
 | [],[]=>true
 | x::xs,y::ys=>bR x y&&bY xs ys
 | _,_=>false
end
@[simp] def kd:D ->Nat
 | .non=>0
 | .bl _=>1
 | .int _=>2
 | .str _=>3
 | .tup _=>4
 | .lst _=>5
 | _=>6
@[simp] def pO (d d' :D):Bool:=kd d<6&&kd d' <6&&(kd d !=kd d' || kd d<4)&&(kd d !=1 || kd d' !=2)&&(kd d !=2 || kd d' !=1)
def gP:Nat ->D ->D ->Prop
 | n+1,.tup xs,.tup ys=>∀(i:Nat) x y,xs[i]?=some x ->ys[i]?=some y ->gP n x y
 | n+1,.lst xs,.lst ys=>∀(i:Nat) x y,xs[i]?=some x ->ys[i]?=some y ->gP n x y
 | _,d,d' =>pO d d' =true
end
mutual
theorem Ag:∀d:D,bR d d=true
 | .non=>by simp [bR]
 | .bl _=>by simp [bR]
 | .int _=>by simp [bR]
 | .str _=>by simp [bR]
 | .tup xs=>by unfold bR;exact xY xs
 | .lst xs=>by unfold bR;exact xY xs
 | .exc _=>by simp [bR]
 | .ptr _=>by simp [bR]
 | .obj _ _ xs=>by unfold bR;rw[xY xs];simp
 | .dic _ xs=>by unfold bR;rw[xY xs];simp
 | .gK _ xs=>by unfold bR;rw[xY xs];simp
 | .dik _ xs=>by unfold bR;rw[xY xs];simp
theorem xY:∀ds:List D,bY ds ds=true
 | []=>by simp [bY]
 | d::ds=>by unfold bY;rw[Ag d,xY ds];rfl
end
mutual
theorem Wx:∀a b:D,bR a b=true ->a=b
 | .non,b,h=>by cases b<;>simp [bR] at h<;>simp [h]
 | .bl _,b,h=>by cases b<;>simp [bR] at h<;>simp [h]
 | .int _,b,h=>by cases b<;>simp [bR] at h<;>simp [h]
 | .str _,b,h=>by cases b<;>simp [bR] at h<;>simp [h]
 | .exc _,b,h=>by cases b<;>simp [bR] at h<;>simp [h]
 | .ptr _,b,h=>by cases b<;>simp [bR] at h<;>simp [h]
 | .obj _ _ xs,b,h=>by
  cases b with
  | obj _ _ ys=>unfold bR at h;simp only [Bool.and_eq_true,decide_eq_true_eq] at h;rw[h.1.1,h.1.2,xZ xs ys h.2]
  | _=>simp [bR] at h
 | .dic _ xs,b,h=>by
  cases b with
  | dic _ ys=>unfold bR at h;simp only [Bool.and_eq_true,decide_eq_true_eq] at h;rw[h.1,xZ xs ys h.2]
  | _=>simp [bR] at h
 | .gK _ xs,b,h=>by
  cases b with
  | gK _ ys=>unfold bR at h;simp only [Bool.and_eq_true,decide_eq_true_eq] at h;rw[h.1,xZ xs ys h.2]
  | _=>simp [bR] at h
 | .dik _ xs,b,h=>by
  cases b with
  | dik _ ys=>unfold bR at h;simp only [Bool.and_eq_true,decide_eq_true_eq] at h;rw[h.1,xZ xs ys h.2]
  | _=>simp [bR] at h
 | .tup xs,b,h=>by
  cases b with
  | tup ys=>unfold bR at h;rw[xZ xs ys h]
  | _=>simp [bR] at h
 | .lst xs,b,h=>by
  cases b with
  | lst ys=>unfold bR at h;rw[xZ xs ys h]
  | _=>simp [bR] at h
theorem xZ:∀a b:List D,bY a b=true ->a=b
 | [],b,h=>by cases b<;>simp [bY] at h<;>rfl
 | x::xs,b,h=>by
  cases b with
  | nil=>simp [bY] at h
  | cons y ys=>
   unfold bY at h;rw[Bool.and_eq_true] at h;rw[Wx x y h.1,xZ xs ys h.2]
end
open Classical in
theorem Oj:∀{xs ys:List D},xs.length=ys.length ->(∀e:Nat ->Bool,(∀(i:Nat) x y,xs[i]?=some x ->ys[i]?=some y ->e i=bR x y) ->(List.range xs.length).all e=bY xs ys)
 | [],[],_,_,_=>by simp [bY]
 | x::xs,y::ys,hl,e,he=>by
  have ih:=Oj (xs:=xs) (ys:=ys) (by simpa using hl) (fun i=>e (i+1)) fun i a b h1 h2=>he (i+1) a b (by simpa using h1) (by simpa using h2)
  rw[List.length_cons,List.range_succ_eq_map,List.all_cons,List.all_map];unfold bY;rw[he 0 x y rfl rfl]
  congr 1
theorem Ol:∀{xs ys:List D},xs.length≠ys.length ->bY xs ys=false
 | [],[],h=>absurd rfl h
 | [],_::_,_=>by simp [bY]
 | _::_,[],_=>by simp [bY]
 | x::xs,y::ys,h=>by
  unfold bY;rw[Ol (fun z=>h (by simp [z])),Bool.and_false]
end L3
namespace L3
open PySem PySem.Spec PyProof.Rows L2
theorem Wy:∀{xs ys:List D},xs.length=ys.length ->(∀(i:Nat) x y,xs[i]?=some x ->ys[i]?=some y ->bR x y=true) ->bY xs ys=true
 | [],[],_,_=>by simp [bY]
 | x::xs,y::ys,hl,h=>by
  unfold bY;rw[h 0 x y rfl rfl,Wy (by simpa using hl) fun i a b h1 h2=>h (i+1) a b (by simpa using h1) (by simpa using h2)]
  rfl
section
variable{X:Cx}{pins:bw}{σ:St}{F H:Hp}{s:Shared}
theorem Wz(I:Inv X pins σ H s){a:Addr}{xs ys:List V}(h:fO X.K H a xs)(h' :iK X.K H a ys):False:=by
 obtain⟨its,_,⟨o,n,e,c,_,_⟩,_⟩:=I.list h;obtain⟨its',_,⟨o',e',c',_⟩,_⟩:=I.tuple h';rw[e] at e';cases e';rw[c] at c';injection c' with c';exact absurd c' (by decide)
theorem Jd{n:Nat}{d d' :D}(hc:gP n d d'):pO d d' =true\/ (∃m xs ys,n=m+1/\d= .tup xs/\d' = .tup ys/\∀(i:Nat) x y,xs[i]?=some x ->ys[i]?=some y ->gP m x y)\/
  ∃m xs ys,n=m+1/\d= .lst xs/\d' = .lst ys/\∀(i:Nat) x y,xs[i]?=some x ->ys[i]?=some y ->gP m x y:=by
 unfold gP at hc;split at hc
 ·exact .inr (.inl ⟨_,_,_,rfl,rfl,rfl,hc⟩)
 ·exact .inr (.inr ⟨_,_,_,rfl,rfl,rfl,hc⟩)
 ·exact .inl hc
theorem WD(I:Inv X pins σ H s)(sF:Same F H):∀(n:Nat) (d d' :D) (v:V),gP n d d' ->Rep X.K F d v ->Rep X.K F d' v ->bR d d' =true:=by
 have flat:∀(d d' :D) (v:V),pO d d' =true ->Rep X.K F d v ->Rep X.K F d' v ->bR d d' =true:=by
  intro d d' v hf r r';cases d with
  | non=>simp only [Rep] at r;subst r;cases d' <;>simp only [Rep] at r' <;>first | rfl | (cases hf;done) | (cases r';done) | (obtain⟨_,_,z,_⟩:=r';cases z)
  | bl=>simp only [Rep] at r;subst r;cases d' <;>simp only [Rep] at r' <;>first | (cases hf;done) | (cases r';done) | (cases r';exact Ag _) | (obtain⟨_,_,z,_⟩:=r';cases z)
  | int=>simp only [Rep] at r;subst r;cases d' <;>simp only [Rep] at r' <;>first | (cases hf;done) | (cases r';done) | (cases r';exact Ag _) | (obtain⟨_,_,z,_⟩:=r';cases z)
  | str=>simp only [Rep] at r;subst r;cases d' <;>simp only [Rep] at r' <;>first | (cases hf;done) | (cases r';done) | (cases r';exact Ag _) | (obtain⟨_,_,z,_⟩:=r';cases z)
  | tup=>simp only [Rep] at r;obtain⟨a,vs,rfl,h1,_⟩:=r;cases d' <;>simp only [Rep] at r' <;>first | (cases hf;done) | (cases r';done) | (obtain⟨_,_,z,h2,_⟩:=r';cases z;exact(Wz I (sF.seq h2) (lH sF h1)).elim)
  | lst=>simp only [Rep] at r;obtain⟨a,vs,rfl,h1,_⟩:=r;cases d' <;>simp only [Rep] at r' <;>first | (cases hf;done) | (cases r';done) | (obtain⟨_,_,z,h2,_⟩:=r';cases z;exact(Wz I (sF.seq h1) (lH sF h2)).elim)
  | _=>cases hf
 intro n;induction n with
 | zero=>
  intro d d' v hc r r';rcases Jd hc with h | ⟨_,_,_,h,_⟩ | ⟨_,_,_,h,_⟩
  ·exact flat d d' v h r r'
  ·cases h
  ·cases h
 | succ n ih=>
  intro d d' v hc r r';have go:∀{xs ys:List D} {vs us:List V},vs=us ->ak X.K F xs vs ->ak X.K F ys us ->(∀(i:Nat) x y,xs[i]?=some x ->ys[i]?=some y ->gP n x y) ->bY xs ys=true:=by
   intro xs ys vs us e r1 r2 hc;subst e;refine Wy (by rw[gM r1,gM r2]) fun i x y h1 h2=> ?_
   obtain⟨v1,e1,q1⟩:=nD r1 h1;obtain⟨v2,e2,q2⟩:=nD r2 h2;rw[e1] at e2;cases e2;exact ih x y v1 (hc i x y h1 h2) q1 q2
  rcases Jd hc with h | ⟨_,xs,ys,h,rfl,rfl,hc⟩ | ⟨_,xs,ys,h,rfl,rfl,hc⟩
  ·exact flat d d' v h r r'
  ·cases h;simp only [Rep] at r r';obtain⟨a,vs,rfl,h1,q1⟩:=r;obtain⟨b,us,z,h2,q2⟩:=r';cases z;unfold bR;exact go (I.tuple_inj (lH sF h1) (lH sF h2)) q1 q2 hc
  ·cases h;simp only [Rep] at r r';obtain⟨a,vs,rfl,h1,q1⟩:=r;obtain⟨b,us,z,h2,q2⟩:=r';cases z;unfold bR;exact go (I.list_inj (sF.seq h1) (sF.seq h2)) q1 q2 hc
structure WK (A:Around) (s:Shared) (v u:Value) (b:Bool):Prop where
 eq:SeqAt.EqAt A s v u b
 rc:SeqAt.RcAt A s v u b
 ne:SeqAt.RcNeAt A s v u (!b)
theorem zsr{n m:Nat}(e:Nat ->Bool)(h:n=m):((List.range (min n m)).all e&&n==m)=(List.range n).all e:=by
 subst h;simp
def Kn(s:Shared):D ->Value ->Prop
 | .non,v=>v= .none
 | .bl b,v=>v= .bool b
 | .int i,v=>∃t,v= .int i t
 | .str x,v=>∃t,v= .str x t
 | .tup _,v=>∃l,v= .ref l/\∃is,IsTup s.heap l is
 | .lst _,v=>∃l,v= .ref l/\∃is,s.heap.IsList l is
 | _,_=>True
theorem kn(I:Inv X pins σ H s)(sF:Same F H){d:D}{x:V}{v:Value}(r:Rep X.K F d x)(rv:RelV x v):Kn s d v:=by
 cases d<;>simp only [Rep] at r<;>unfold Kn<;>try trivial
 case non=>subst r;cases rv;rfl
 case bl=>subst r;cases rv;rfl
 case int=>subst r;obtain⟨t,rfl⟩:=rv;exact⟨t,rfl⟩
 case str=>subst r;obtain⟨t,rfl⟩:=rv;exact⟨t,rfl⟩
 case tup=>
  obtain⟨l,vs,rfl,h,_⟩:=r;cases rv;obtain⟨is,_,k,_⟩:=I.tuple (lH sF h);exact⟨l,rfl,_,k⟩
 case lst=>
  obtain⟨l,vs,rfl,h,_⟩:=r;cases rv;obtain⟨is,_,k,_⟩:=I.list (sF.seq h);exact⟨l,rfl,_,k.isList⟩
theorem WL{A:Around}{d d' :D}{v u:Value}(hu0:A.units<cLine)(hf:pO d d' =true)(a:Kn s d v)(b:Kn s d' u):WK A s v u (bR d d'):=by
 cases d with
 | non=>
  obtain rfl:=a;cases d' with
  | non=>obtain rfl:=b;exact⟨.same _,.none_none,.none_none⟩
  | bl _=>obtain rfl:=b;exact⟨.none_bool _,.none_bool _,.none_bool _⟩
  | int _=>obtain⟨_,rfl⟩:=b;exact⟨.none_int _ _,.none_int _ _,.none_int _ _⟩
  | str _=>obtain⟨_,rfl⟩:=b;exact⟨.none_str _ _,.none_str _ _,.none_str _ _⟩
  | tup _=>obtain⟨_,rfl,_,k2⟩:=b;exact⟨.none_tuple k2 hu0,.none_tuple k2 hu0,.none_tuple k2 hu0⟩
  | lst _=>obtain⟨_,rfl,_,k2⟩:=b;exact⟨.none_list k2 hu0,.none_list k2 hu0,.none_list k2 hu0⟩
  | _=>cases hf
 | bl _=>
  obtain rfl:=a;cases d' with
  | non=>obtain rfl:=b;exact⟨.bool_none _,.bool_none _,.bool_none _⟩
  | bl _=>obtain rfl:=b;exact⟨.bool_bool _ _,.bool_bool _ _,.bool_bool _ _⟩
  | str _=>obtain⟨_,rfl⟩:=b;exact⟨.bool_str _ _ _,.bool_str _ _ _,.bool_str _ _ _⟩
  | tup _=>obtain⟨_,rfl,_,k2⟩:=b;exact⟨.bool_tuple _ k2 hu0,.bool_tuple _ k2 hu0,.bool_tuple _ k2 hu0⟩
  | lst _=>obtain⟨_,rfl,_,k2⟩:=b;exact⟨.bool_list _ k2 hu0,.bool_list _ k2 hu0,.bool_list _ k2 hu0⟩
  | _=>cases hf
 | int _=>
  obtain⟨_,rfl⟩:=a;cases d' with
  | non=>obtain rfl:=b;exact⟨.int_none _ _,.int_none _ _,.int_none _ _⟩
  | int _=>obtain⟨_,rfl⟩:=b;exact⟨.int_int _ _ _ _,.int_int _ _ _ _,.int_int _ _ _ _⟩
  | str _=>obtain⟨_,rfl⟩:=b;exact⟨.int_str _ _ _ _,.int_str _ _ _ _,.int_str _ _ _ _⟩
  | tup _=>obtain⟨_,rfl,_,k2⟩:=b;exact⟨.int_tuple _ _ k2 hu0,.int_tuple _ _ k2 hu0,.int_tuple _ _ k2 hu0⟩
  | lst _=>obtain⟨_,rfl,_,k2⟩:=b;exact⟨.int_list _ _ k2 hu0,.int_list _ _ k2 hu0,.int_list _ _ k2 hu0⟩
  | _=>cases hf
 | str _=>
  obtain⟨_,rfl⟩:=a;cases d' with
  | non=>obtain rfl:=b;exact⟨.str_none _ _,.str_none _ _,.str_none _ _⟩
  | bl _=>obtain rfl:=b;exact⟨.str_bool _ _ _,.str_bool _ _ _,.str_bool _ _ _⟩
  | int _=>obtain⟨_,rfl⟩:=b;exact⟨.str_int _ _ _ _,.str_int _ _ _ _,.str_int _ _ _ _⟩
  | str _=>obtain⟨_,rfl⟩:=b;exact⟨.str_str _ _ _ _,.str_str _ _ _ _,.str_str _ _ _ _⟩
  | tup _=>obtain⟨_,rfl,_,k2⟩:=b;exact⟨.str_tuple _ _ k2 hu0,.str_tuple _ _ k2 hu0,.str_tuple _ _ k2 hu0⟩
  | lst _=>obtain⟨_,rfl,_,k2⟩:=b;exact⟨.str_list _ _ k2 hu0,.str_list _ _ k2 hu0,.str_list _ _ k2 hu0⟩
  | _=>cases hf
 | tup _=>
  obtain⟨_,rfl,_,k1⟩:=a;cases d' with
  | non=>obtain rfl:=b;exact⟨.tuple_none k1 hu0,.tuple_none k1 hu0,.tuple_none k1 hu0⟩
  | bl _=>obtain rfl:=b;exact⟨.tuple_bool _ k1 hu0,.tuple_bool _ k1 hu0,.tuple_bool _ k1 hu0⟩
  | int _=>obtain⟨_,rfl⟩:=b;exact⟨.tuple_int _ _ k1 hu0,.tuple_int _ _ k1 hu0,.tuple_int _ _ k1 hu0⟩
  | str _=>obtain⟨_,rfl⟩:=b;exact⟨.tuple_str _ _ k1 hu0,.tuple_str _ _ k1 hu0,.tuple_str _ _ k1 hu0⟩
  | lst _=>obtain⟨_,rfl,_,k2⟩:=b;exact⟨.tuple_list k1 k2 hu0,.tuple_list k1 k2 hu0,.tuple_list k1 k2 hu0⟩
  | _=>cases hf
 | lst _=>
  obtain⟨_,rfl,_,k1⟩:=a;cases d' with
  | non=>obtain rfl:=b;exact⟨.list_none k1 hu0,.list_none k1 hu0,.list_none k1 hu0⟩
  | bl _=>obtain rfl:=b;exact⟨.list_bool _ k1 hu0,.list_bool _ k1 hu0,.list_bool _ k1 hu0⟩
  | int _=>obtain⟨_,rfl⟩:=b;exact⟨.list_int _ _ k1 hu0,.list_int _ _ k1 hu0,.list_int _ _ k1 hu0⟩
  | str _=>obtain⟨_,rfl⟩:=b;exact⟨.list_str _ _ k1 hu0,.list_str _ _ k1 hu0,.list_str _ _ k1 hu0⟩
  | tup _=>obtain⟨_,rfl,_,k2⟩:=b;exact⟨.list_tuple k1 k2 hu0,.list_tuple k1 k2 hu0,.list_tuple k1 k2 hu0⟩
  | _=>cases hf
 | _=>cases hf
theorem yc(I:Inv X pins σ H s)(sF:Same F H):∀(n:Nat) (A:Around) (d d' :D) (x y:V) (v u:Value),A.units+n+1<cLine ->gP n d d' ->Rep X.K F d x ->Rep X.K F d' y ->RelV x v ->RelV y u ->WK A s v u (bR d d'):=by
 intro n;induction n with
 | zero=>
  intro A d d' x y v u hu hc r r' rv ru;rcases Jd hc with h | ⟨_,_,_,h,_⟩ | ⟨_,_,_,h,_⟩
  ·exact WL (by omega) h (kn I sF r rv) (kn I sF r' ru)
  ·cases h
  ·cases h
 | succ n ih=>
  intro A d d' x y v u hu hc0 r r' rv ru;have hu0:A.units<cLine:=by omega
  rcases Jd hc0 with h | ⟨_,xs,ys,h,rfl,rfl,hc⟩ | ⟨_,xs,ys,h,rfl,rfl,hc⟩
  ·exact WL hu0 h (kn I sF r rv) (kn I sF r' ru)
  ·cases h;simp only [Rep] at r r';obtain⟨l1,vs,rfl,h1,q1⟩:=r;obtain⟨l2,us,rfl,h2,q2⟩:=r';cases rv;cases ru;obtain⟨is1,p1,k1,_⟩:=I.tuple (lH sF h1);obtain⟨is2,p2,k2,_⟩:=I.tuple (lH sF h2);have el1:is1.length=xs.length:=by rw[<- p1.length,gM q1]
   have el2:is2.length=ys.length:=by rw[<- p2.length,gM q2]
   have at_:∀j (g1:j<is1.toArray.size) (g2:j<is2.toArray.size),SeqAt.EqAt A.in1 s is1.toArray[j] is2.toArray[j] ((fun j=>match xs[j]?,ys[j]? with | some a,some b=>bR a b | _,_=>false) j):=by
    intro j g1 g2;have Om :j<xs.length:=by simpa [el1] using g1
    have Oo :j<ys.length:=by simpa [el2] using g2
    have e1:xs[j]?=some xs[j]:=by simp [Om]
    have e2:ys[j]?=some ys[j]:=by simp [Oo]
    obtain⟨w1,f1,m1⟩:=nD q1 e1;obtain⟨w2,f2,m2⟩:=nD q2 e2;obtain⟨z1,c1,b1⟩:=p1.get f1;obtain⟨z2,c2,b2⟩:=p2.get f2;have y1:is1.toArray[j]=z1:=by simpa [List.getElem?_eq_some_iff] using (zU.mp c1).2
    have y2:is2.toArray[j]=z2:=by simpa [List.getElem?_eq_some_iff] using (zU.mp c2).2
    simp only [e1,e2];rw[y1,y2];exact(ih A.in1 _ _ w1 w2 z1 z2 (by show A.units+1+n+1<cLine;omega) (hc j _ _ e1 e2) m1 m2 b1 b2).eq
   unfold bR;have same:l1=l2 ->bY xs ys=true:=fun e=>by
    have z:=WD I sF (n+1) (.tup xs) (.tup ys) (.ref l1) (by simp only [gP];exact hc) (by simp only [Rep];exact⟨l1,vs,rfl,h1,q1⟩) (by simp only [Rep];exact⟨l2,us,by rw[e],h2,q2⟩)
    unfold bR at z;exact z
   have ev:((List.range (min is1.toArray.size is2.toArray.size)).all (fun j=>match xs[j]?,ys[j]? with | some a,some b=>bR a b | _,_=>false)&&is1.toArray.size==is2.toArray.size)=bY xs ys:=by
    have s1:is1.toArray.size=xs.length:=by simp [el1]
    have s2:is2.toArray.size=ys.length:=by simp [el2]
    rw[s1,s2];by_cases hl:xs.length=ys.length
    ·rw[zsr _ hl];exact Oj hl _ fun i a b z1 z2=>by simp only [z1,z2]
    ·rw[Ol hl,beq_false_of_ne hl,Bool.and_false]
   have rc:=SeqAt.RcAt.tuples k1 k2 hu0 at_;have rn:=SeqAt.RcNeAt.tuples k1 k2 hu0 at_;rw[ev] at rc rn;refine⟨?_,rc,rn⟩;by_cases e:l1=l2
   ·rw[same e];subst e;exact SeqAt.EqAt.same _
   ·exact SeqAt.EqAt.of_refs e rc
  ·cases h;simp only [Rep] at r r';obtain⟨l1,vs,rfl,h1,q1⟩:=r;obtain⟨l2,us,rfl,h2,q2⟩:=r';cases rv;cases ru;obtain⟨is1,p1,k1',_⟩:=I.list (sF.seq h1);obtain⟨is2,p2,k2',_⟩:=I.list (sF.seq h2);have k1:=k1'.isList;have k2:=k2'.isList;have el1:is1.length=xs.length:=by rw[<- p1.length,gM q1]
   have el2:is2.length=ys.length:=by rw[<- p2.length,gM q2]
   have at_:∀j (g1:j<is1.toArray.size) (g2:j<is2.toArray.size),SeqAt.EqAt A.in1 s is1.toArray[j] is2.toArray[j] ((fun j=>match xs[j]?,ys[j]? with | some a,some b=>bR a b | _,_=>false) j):=by
    intro j g1 g2;have Om :j<xs.length:=by simpa [el1] using g1
    have Oo :j<ys.length:=by simpa [el2] using g2
    have e1:xs[j]?=some xs[j]:=by simp [Om]
    have e2:ys[j]?=some ys[j]:=by simp [Oo]
    obtain⟨w1,f1,m1⟩:=nD q1 e1;obtain⟨w2,f2,m2⟩:=nD q2 e2;obtain⟨z1,c1,b1⟩:=p1.get f1;obtain⟨z2,c2,b2⟩:=p2.get f2;have y1:is1.toArray[j]=z1:=by simpa [List.getElem?_eq_some_iff] using (zU.mp c1).2
    have y2:is2.toArray[j]=z2:=by simpa [List.getElem?_eq_some_iff] using (zU.mp c2).2
    simp only [e1,e2];rw[y1,y2];exact(ih A.in1 _ _ w1 w2 z1 z2 (by show A.units+1+n+1<cLine;omega) (hc j _ _ e1 e2) m1 m2 b1 b2).eq
   unfold bR;have same:l1=l2 ->bY xs ys=true:=fun e=>by
    have z:=WD I sF (n+1) (.lst xs) (.lst ys) (.ref l1) (by simp only [gP];exact hc) (by simp only [Rep];exact⟨l1,vs,rfl,h1,q1⟩) (by simp only [Rep];exact⟨l2,us,by rw[e],h2,q2⟩)
    unfold bR at z;exact z
   have rcn:SeqAt.RcAt A s (.ref l1) (.ref l2) (bY xs ys)/\SeqAt.RcNeAt A s (.ref l1) (.ref l2) (!bY xs ys):=by
    by_cases hl:xs.length=ys.length
    ·have ev:(List.range is1.toArray.size).all (fun j=>match xs[j]?,ys[j]? with | some a,some b=>bR a b | _,_=>false)=bY xs ys:=by
      have s1:is1.toArray.size=xs.length:=by simp [el1]
      rw[s1];exact Oj hl _ fun i a b z1 z2=>by simp only [z1,z2]
     have hz:is1.toArray.size=is2.toArray.size:=by simp [el1,el2,hl]
     have rc:=SeqAt.RcAt.lists k1 k2 hz hu0 at_;have rn:=SeqAt.RcNeAt.lists k1 k2 hz hu0 at_;rw[ev] at rc rn;exact⟨rc,rn⟩
    ·have hz:(is1.toArray.size !=is2.toArray.size)=true:=by simp [el1,el2,hl]
     rw[Ol hl];exact⟨SeqAt.RcAt.lists_lengths k1 k2 hz hu0,SeqAt.RcNeAt.lists_lengths k1 k2 hz hu0⟩
   obtain⟨rc,rn⟩:=rcn;refine⟨?_,rc,rn⟩;by_cases e:l1=l2
   ·rw[same e];subst e;exact SeqAt.EqAt.same _
   ·exact SeqAt.EqAt.of_refs e rc
def lZ:D ->D ->(D ->Prop) ->Prop:=fun x y P=>gP 20 x y/\P (.bl (bR x y))
def Ah:D ->D ->(D ->Prop) ->Prop:=fun x y P=>gP 20 x y/\P (.bl (!bR x y))
theorem fY(hu:X.A.units+21<cLine):gJ X (compareOp .Eq) (lX X.K lZ):=by
 rintro pins s σ H x y u w Q I rx ry ⟨F,d1,d2,P,sF,r1,r2,h,k⟩;exact(yc I sF 20 X.A d1 d2 x y u w hu h.1 r1 r2 rx ry).rc _ _ _ _ ⟨.bl _,H,I,rfl,k _ _ F H (Gr.refl sF) (by unfold Rep;rfl) h.2⟩
theorem u5(hu:X.A.units+21<cLine):gJ X (compareOp .NotEq) (lX X.K Ah):=by
 rintro pins s σ H x y u w Q I rx ry ⟨F,d1,d2,P,sF,r1,r2,h,k⟩;exact(yc I sF 20 X.A d1 d2 x y u w hu h.1 r1 r2 rx ry).ne _ _ _ _ ⟨.bl _,H,I,rfl,k _ _ F H (Gr.refl sF) (by unfold Rep;rfl) h.2⟩
end
def mL(K:W.Frag)(C D:Addr):Bool:=match K.lookup C with
 | some ⟨_,_,.cls cd,_⟩=>cd.mro.contains (.ref D)
 | _=>false
section
variable{M:Model}{A:Around}{E:bG}{h:Heap}{g:Array GenState}{d:Drawn}{t:Nat}{os:OsState}
 {nm q nm' q' :Str} {C N C' N' :Addr} {bs bm bs' bm' :List Value} {hdct WM :Bool} {sn sn' :List Str} {sub sub' :List Value} {ab ab' :Bool} {col col' :Option Bool} {dd Dm :Option Addr} {k0 k1 k2 k3 k5 j0 j1 j2 j3 j5:Option Value} {newId newId' :String}
end
abbrev _root_.L2.Cx.hand(X:Cx)(a:Addr):Cx:={X with A:=X.A.mark (some (.ref a)),calm:=false}
section
variable{X:Cx}{pins:bw}{σ:St}{H:Hp}{s:Shared}{a:Addr}
end
def jY:XW:=fun _ _=>False
section
variable{X:Cx}{pins:bw}{σ:St}{H:Hp}{s:Shared}
theorem Ai:Ctx (X.wsh ⟨fun _ _=>False,pn⟩) F0 H0 jY:=
 ⟨fun _ _ _ _ _ _ _ _ _ _ h=>by obtain⟨_,_,_,_,_,_,_,_,_,_,_,_,_,_,_,_,h,_⟩:=h;exact h.elim,PassesOwn.never⟩
end
def Oq(K:W.Frag)(Cd:Addr)(tb th:au):au:=fun D Γ _=>tb D Γ fun Γ1 Cv=>∃C,Cv= .ref C/\rM K C/\mL K C Cd=true/\th D Γ1 jY
def Ef(K:W.Frag)(Cd:Addr)(i:Nat)(tb th:au):au:=fun D Γ _=>tb D Γ fun Γ1 Cv=>∃C,Cv= .ref C/\rM K C/\mL K C Cd=true/\
 th {nx:=fun Γ' =>D.nx (Γ'.set i .no),rt:=D.rt,bk:=fun Γ' =>D.bk (Γ'.set i .no),ct:=fun Γ' =>D.ct (Γ'.set i .no)} (Γ1.set i (.pu (.exc C))) jY
section
variable{X:Cx}{F0 H0:Hp}{pos np hp:Pos}{x n:Str}{Cd:Addr}{body suite:List Stmt}{b₀:Stmt}{tb th:au}
end
def cU(g:D ->(D ->Prop) ->Prop)(ta:aH):aH:=fun Γ P E=>ta Γ (fun d Γ1=>g d fun d' =>P d' Γ1) E
def rR:D ->(D ->Prop) ->Prop:=fun x P=>match x with | .int i=>P (.int (-i)) | _=>False
def nJ(K:W.Frag)(g:List D ->(D ->Prop) ->Prop):List V ->Hp ->VK ->Prop:=fun vs H Q=>∃F ds P,Same F H/\ak K F ds vs/\g ds P/\∀d z F' H',Gr F H F' H' ->Rep K F' d z ->P d ->Q z H'
def jP(g:List D ->(D ->Prop) ->Prop)(t:aZ):aH:=fun Γ P E=>t Γ (fun ds Γ1=>g ds fun d=>P d Γ1) E
def fL:D ->D ->(D ->Prop) ->Prop:=fun x y P=>match x,y with
 | .lst xs,.int i=>∃d,jC xs i=some d/\P d
 | .tup xs,.int i=>∃d,jC xs i=some d/\P d
 | .str z,.int i=>∃c,z.length<=sizeLine/\jC z.cps.toList i=some c/\P (.str ⟨#[c]⟩)
 | _,_=>False
theorem WQ{K:W.Frag}{F:Hp}{ds:List D}{vs:List V}{i:Int}{d:D}(r:ak K F ds vs)(h:jC ds i=some d):∃v,jC vs i=some v/\Rep K F d v:=by
 unfold jC at h⊢;rw[<- gM r];cases q:ql ds.length i with
 | none=>rw[q] at h;cases h
 | some j=>
  rw[q] at h;exact nD r h
section
variable{X:Cx}{F0 H0:Hp}{a b e:Expr}{es:List Expr}{pos p:Pos}{ta tb te:aH}{t:aZ}{x:Str}
theorem Ot(ha:QE X F0 H0 a ta):QE X F0 H0 (.UnaryOp .USub a pos) (cU rR ta):=fun z E cx=>
 jL (Vg Vi (ha z E cx)) fun σ H Q hq1=>by obtain⟨F,Γ,P,R,h,k⟩:=hq1;exact⟨F,Γ,_,R,h,fun d Γ1 F1 H1 v R1 s1 r q=>by
  cases d with
  | int i=>
   unfold Rep at r;exact⟨i,r,k _ _ _ _ _ R1 s1 (by unfold Rep;rfl) q⟩
  | _=>exact False.elim q⟩
theorem WR{K:W.Frag}{g:List D ->(D ->Prop) ->Prop}{E:XW}{σ:St}{H:Hp}{Q:VK}(h:xM K F0 H0 (jP g t) E σ H Q):CZ (nJ K g) (DN K F0 H0 t E) σ H Q:=by
 obtain⟨F,Γ,P,R,h,k⟩:=h;exact⟨F,Γ,_,R,h,fun ds Γ1 F1 H1 vs R1 s1 r1 h1=>⟨F1,ds,_,R1.g,r1,h1,fun d z F' H' gr rz hp=>k d Γ1 F' H' z (R1.grow gr) (s1.trans gr.f) rz hp⟩⟩
theorem nM{id:String}{g:List D ->(D ->Prop) ->Prop}(hc:∀z,cG (X.wsh z) (.builtin id) (nJ X.K g))(hg:Gl X x)(hm:X.mg x=none)(hv:bootBuiltins x=some (.builtin id))(ha:QA X F0 H0 (e::es) t)(hn:x≠ "__name__" :=by decide)(hdb:(x==("__debug__" :Str))=false:=by decide)
  (he:starEach (e::es) X.env=(false,eval e X.env)::starEach es X.env:=by rfl) (hpl:(backTo pos (starEach es X.env)).any (·.1)=false:=by rfl):QE X F0 H0 (.Call (.Name x p) (e::es) [] pos) (jP g t):=fun z E cx=>
 jL (Mp (X:=X.wsh z) (hc z) hg hm hv (ha z E cx) hn hdb he hpl) fun _ _ _ h=>WR h
theorem gb(ha:QE X F0 H0 a ta)(hb:QE X F0 H0 b tb)(hs:VB b):QE X F0 H0 (.Subscript a b pos) (cB fL ta tb):=fun z E cx=>
 jL (z5h (X:=X.wsh z) (r:=lX X.K fL) (by
  rintro value slice pins s σ H x y v u Q I rx ry ⟨F,d1,d2,P,sF,r1,r2,h,k⟩ hs;unfold fL at h;split at h
  ·unfold Rep at r1 r2;obtain⟨p,vs,rfl,hq,rs⟩:=r1;subst r2;obtain⟨d,e,hp⟩:=h;obtain⟨w,ew,lW⟩:=WQ rs e;exact z1e value slice pins s σ H _ _ v u Q I rx ry ⟨p,vs,_,w,rfl,rfl,sF.seq hq,ew,k _ _ F H (Gr.refl sF) lW hp⟩ hs
  ·unfold Rep at r1 r2;obtain⟨p,vs,rfl,hq,rs⟩:=r1;subst r2;obtain⟨d,e,hp⟩:=h;obtain⟨w,ew,lW⟩:=WQ rs e;exact z21 value slice pins s σ H _ _ v u Q I rx ry ⟨p,vs,_,w,rfl,rfl,lH sF hq,ew,k _ _ F H (Gr.refl sF) lW hp⟩ hs
  ·unfold Rep at r1 r2;subst r1 r2;obtain⟨c,hz,e,hp⟩:=h;exact z3e value slice pins s σ H _ _ v u Q I rx ry ⟨_,_,c,rfl,rfl,hz,e,k _ _ F H (Gr.refl sF) (by unfold Rep;rfl) hp⟩ hs
  ·exact h.elim) (ha z E cx) (hb z E cx) hs) fun _ _ _ h=>Iz h
end
def Aj:List D ->(D ->Prop) ->Prop:=fun ds P=>match ds with | [.int i]=>P (.int (if i<0 then -i else i)) | _=>False
def pP:List D ->(D ->Prop) ->Prop:=fun ds P=>match ds with | [.lst xs]=>P (.int xs.length) | [.tup xs]=>P (.int xs.length) | [.str z]=>z.length<=sizeLine/\P (.int z.length) | _=>False
def z4z:List D ->(D ->Prop) ->Prop:=fun ds P=>match ds with | [.int i,.int j]=>P (.int (if j>i then j else i)) | _=>False
def z43:List D ->(D ->Prop) ->Prop:=fun ds P=>match ds with | [.int i,.int j]=>P (.int (if j<i then j else i)) | _=>False
section
variable{X:Cx}
theorem Ou:cG X (.builtin "abs") (nJ X.K Aj):=by
 rintro pins s σ H xs us Q I r ⟨F,ds,P,sF,rs,h,k⟩;unfold Aj at h;split at h
 ·unfold ak ak Rep at rs;obtain⟨v,_,rfl,rfl,rfl⟩:=rs;exact zx1 pins s σ H _ us Q I r ⟨_,rfl,k _ _ F H (Gr.refl sF) (by unfold Rep;rfl) h⟩
 ·exact h.elim
theorem rW:cG X (.builtin "len") (nJ X.K pP):=by
 rintro pins s σ H xs us Q I r ⟨F,ds,P,sF,rs,h,k⟩;unfold pP at h;split at h
 ·unfold ak ak Rep at rs;obtain⟨v,_,rfl,⟨p,vs,rfl,hq,rs⟩,rfl⟩:=rs;rw[gM rs] at h;exact VG pins s σ H _ us Q I r ⟨p,vs,rfl,.inl (sF.seq hq),k _ _ F H (Gr.refl sF) (by unfold Rep;rfl) h⟩
 ·unfold ak ak Rep at rs;obtain⟨v,_,rfl,⟨p,vs,rfl,hq,rs⟩,rfl⟩:=rs;rw[gM rs] at h;exact VG pins s σ H _ us Q I r ⟨p,vs,rfl,.inr (lH sF hq),k _ _ F H (Gr.refl sF) (by unfold Rep;rfl) h⟩
 ·unfold ak ak Rep at rs;obtain⟨v,_,rfl,rfl,rfl⟩:=rs;exact zna pins s σ H _ us Q I r ⟨_,rfl,h.1,k _ _ F H (Gr.refl sF) (by unfold Rep;rfl) h.2⟩
 ·exact h.elim
end
def tyD:D ->Option String
 | .non=>some "NoneType" | .bl _=>some "bool" | .int _=>some "int" | .str _=>some "str" | .tup _=>some "tuple" | .lst _=>some "list" | .exc _=>none | .ptr _=>none | .obj _ _ _=>none | .dic _ _=>none | .gK _ _=>none | .dik _ _=>some "dict"
def Ov(d:D)(T:String):Option Bool:=(tyD d).bind fun S=>W.kitOne [] (.type S) (.type T)
def Ow(T:String)(ta:aH):aH:=fun Γ P E=>ta Γ (fun d Γ1=>match Ov d T with | some b=>P (.bl b) Γ1 | none=>False) E
section
variable{X:Cx}{pins:bw}{σ:St}{F H:Hp}{s:Shared}
end
section
variable{X:Cx}{F0 H0:Hp}{a:Expr}{pos p pt:Pos}{ta:aH}{x:Str}{T:String}
end
def mO(C:Addr)(t:aZ):au:=fun _ Γ E=>t Γ (fun ds Γ1=>ds.length<=sizeLine/\E Γ1 (.ref C)) E
section
variable{X:Cx}{F0 H0:Hp}{e:Expr}{es:List Expr}{pos np cpos:Pos}{t:aZ}{x:Str}{C:Addr}
theorem WT(hh:X.calm=true)(hg:Gl X x)(hm:X.mg x=some (.ref C))(hC:nF X.K C)(ha:QA X F0 H0 (e::es) t)
  (hd:(x==("__debug__" :Str))=false:=by decide) (he:starEach (e::es) X.env=(false,eval e X.env)::starEach es X.env:=by rfl) (hpl:(backTo cpos (starEach es X.env)).any (·.1)=false:=by rfl):
  QS X F0 H0 (.Raise (some (.Call (.Name x np) (e::es) [] cpos)) none pos) (mO C t):=by
 rintro z E cx pins s σ H D I ⟨F,Γ,D2,R,h,k⟩;refine zw1 (X:=X.wsh z) (E:=fun C' dx H1=>∃F1 Γ1,SR X.K F0 H0 F1 H1 σ Γ1/\E Γ1 (.ref C)) hg hm hC (ha z E cx) hh I ⟨F,Γ,_,R,h,fun ds Γ1 F1 H1 vs R1 s1 r1 h1=>⟨by rw[<- gM r1];exact h1.1,F1,Γ1,R1,h1.2⟩⟩ (fun H1 s1 e s' I1 hx=> ?_) hd he hpl
 obtain⟨a,C',H',B,h1,h2,h3,h4,h5,h6,h7,h8,rfl,h9,rfl,F1,Γ1,R1,hE⟩:=hx;exact cx.px pins σ Γ1 F1 _ s1 e s' I1 R1 ⟨a,_,_,B,h1,h2,h3,h4,h5,h6,h7,h8,hE,rfl,.refl _⟩
end
structure cP (P:Program) (w:World) (K:W.Frag) (mg:Str ->Option Value) (base:Heap) (x:Str) (k:Nat) (ps:List Str) (sp:cj):Prop where
 ex:∃f fd,d7 P w K mg base (gO P w) k f fd ps (jO K sp)/\mg x=some (.ref f)/\W.keepIn K (.ref f)=true/\Binds K fd ps []
section
variable{X:Cx}{F0 H0:Hp}{e:Expr}{es:List Expr}{pos p:Pos}{x:Str}{ps:List Str}{k:Nat}{sp:cj}{t:aZ}
theorem dR(G:cP X.prog X.w X.K X.mg X.base x k ps sp)(hr:eU k X.A)(hg:Gl X x)(ha:QA X F0 H0 (e::es) t)(hdb:(x==("__debug__" :Str))=false:=by decide)(he:starEach (e::es) X.env=(false,eval e X.env)::starEach es X.env:=by rfl)(hpl:(backTo pos (starEach es X.env)).any (·.1)=false:=by rfl):
  QE X F0 H0 (.Call (.Name x p) (e::es) [] pos) (aD sp t):=by
 obtain⟨f,fd,h1,h2,h3,h4⟩:=G.ex;exact z0w h1 hr hg h2 h3 h4 ha hdb he hpl
end
section
variable{X:Cx}{pins:bw}{σ:St}{H:Hp}{s:Shared}{a:Addr}{o:HO}
end
section
variable{X:Cx}{F0 H0:Hp}{pos np hp:Pos}{x n:Str}{Cd:Addr}{body suite:List Stmt}{b₀:Stmt}{tb th:au}{i:Nat}
end
def Je:cj:=fun ds P _=>∃ns:List Int,ds= [.lst (ns.map .int)]/\ns.length<=63/\P (.bl true)
theorem WW{K:W.Frag}{F:Hp}:∀ns:List Int,ak K F (ns.map .int) (ns.map V.int)
 | []=>by unfold ak;rfl
 | n::ns=>oW (by unfold Rep;rfl) (WW ns)
theorem zs2{K:W.Frag}{H:Hp}{a:Addr}{ns:List Int}(hl:ns.length<=63)(hS:fO K H a (ns.map V.int)):jO K Je [.ref a] H (fun v _=>v= .bl true) fun _ _ _=>False:=
 ⟨H,[.lst (ns.map .int)],fun d=>d= .bl true,fun _=>False,.refl _,Dt (by unfold Rep;exact⟨a,_,rfl,hS,WW ns⟩),⟨ns,rfl,hl,rfl⟩,fun d v F' H' gr r h=>by subst h;unfold Rep at r;exact r,fun _ _ h=>h.elim⟩
theorem zxb(h:gO P w [] H s (fun _ _ _=>False) e s'):False:=by
 obtain⟨_,_,_,_,_,_,_,_,_,_,_,_,h⟩:=h;exact h
structure Cls where
 Ak:Addr:=0
 bI:Addr:=0
 Ox:Addr:=0
 Oz:Addr:=0
 WX:Addr:=0
 Missing:Addr:=0
 dG:Addr:=0
 Few:Addr:=0
 Apart:Addr:=0
 Jf:Addr:=0
 OD:Addr:=0
 Open:Addr:=0
 OJ:Addr:=0
 Al:Addr:=0
 WY:Addr:=0
 Scale:Addr:=0
 aaH:Addr:=0
 Jg:Addr:=0
 aaI:Addr:=0
structure u6 (K:W.Frag) (C:Addr):Prop where
 ga:W.findIn K (.ref C) "__getattribute__" =some (some (.builtin "BaseException.__getattribute__"))
 gn:W.findIn K (.ref C) "__getattr__" =some none
 cl:W.findIn K (.ref C) "__class__" =some (some (.builtin "object.__class__"))
 ob:W.mroIn K C (.type "object")=some true
 be:W.mroIn K C (.type "BaseException")=some true
def O1(K:W.Frag)(C:Addr)(ta:aH):aH:=fun Γ P E=>ta Γ (fun d Γ1=>match d with | .exc C0=>(rM K C0/\u6 K C0)/\P (.bl (mL K C0 C)) Γ1 | _=>False) E
section
open PySem.W PySem.Builtin PySem.Builtin.ObjectAttr PySem.Builtin.Getset_descriptor
variable{prog:Program}{w:World}{A:Around}{E:bG}{K:W.Frag}{h:Heap}{g:Array GenState}{d:Drawn}{t:Nat}{os:OsState}{a C:Addr}{o:Obj}
def aaJ(K:W.Frag)(C:Addr):Bool:=match K.lookup C with
 | some ⟨.type "type",_,.cls cd,_⟩=>(match cd.mro with | .ref C' ::_=>C' ==C | _=>false)
 | _=>false
end
section
variable{X:Cx}{F0 H0:Hp}{a:Expr}{pos p pt:Pos}{ta:aH}{x:Str}{C:Addr}
end
theorem O2:∀(names:List (Str×NameKind)) (n:Nat) (acc:List (Str×Addr)),(∀p∈names,p.2= .cell ->p.1≠x) ->(cellsFrom n names acc).lookup x=acc.lookup x
 | [],_,_,_=>rfl
 | (y,k)::r,n,acc,h=>by
  unfold cellsFrom;have hr:∀p∈r,p.2= .cell ->p.1≠x:=fun p hp=>h p (zV _ hp);split
  ·rename_i hk;have hy:y≠x:=h (y,k) zW (by simpa using hk)
   rw[O2 r _ _ hr,List.lookup_cons];have:(x==y)=false:=by rw[beq_eq_false_iff_ne];exact Ne.symm hy
   rw[this]
  ·exact O2 r _ _ hr
theorem O3:∀(names:List (Str×NameKind)) (h:Heap) (acc:List (Str×Addr)),(x,c)∈cellsFrom h.objs.size names acc ->(x,c)∈acc\/ (h.objs.size<=c/\ (pushCells h names).IsCell c none/\ (x,NameKind.cell)∈names)
 | [],_,_,m=> .inl m
 | (y,k)::r,h,acc,m=>by
  unfold cellsFrom at m;unfold pushCells;split at m
  ·rename_i hk;rw[if_pos hk];have sz:(h.push {cls:= .type "cell",data:= .cell none}).objs.size=h.objs.size+1:=Heap.size_push ..;rw[<- sz] at m;rcases O3 r _ _ m with z | ⟨z1,z2,z3⟩
   ·rcases zT.mp z with e | z
    ·cases e;have e2:k= .cell:=by simpa using hk
     subst e2;refine .inr ⟨zM _,?_,zW⟩;exact⟨_,pushCells_keeps r _ _ _ (zY _ rfl),rfl⟩
    ·exact .inl z
   ·exact .inr ⟨by rw[sz] at z1;omega,z2,zV _ z3⟩
  ·rename_i hk;rw[if_neg hk];rcases O3 r h acc m with z | ⟨z1,z2,z3⟩
   ·exact .inl z
   ·exact .inr ⟨z1,z2,zV _ z3⟩
theorem O4:∀(names:List (Str×NameKind)) (n:Nat) (acc:List (Str×Addr)),(acc.Pairwise fun x y=>x.2≠y.2) ->(∀p∈acc,p.2<n) ->(cellsFrom n names acc).Pairwise fun x y=>x.2≠y.2
 | [],_,_,h,_=>h
 | (y,k)::r,n,acc,h,hl=>by
  unfold cellsFrom;split
  ·refine O4 r _ _ (List.pairwise_cons.mpr ⟨fun p hp e=> ?_,h⟩) fun p hp=> ?_
   ·have e' :n=p.2:=e;exact yV _ (Nat.lt_of_lt_of_eq (hl p hp) e')
   ·rcases zT.mp hp with rfl | hp
    ·exact Nat.lt_succ_self _
    ·exact Nat.lt_succ_of_lt (hl p hp)
  ·exact O4 r n acc h hl
def iV(env:Env):List (Str×NameKind) ->List (Str×Addr) ->List (Str×Addr)
 | [],cs=>cs
 | (n,k)::r,cs=>iV env r (if k== .free then(n,(env.cells.lookup n).getD 0)::cs else cs)
theorem z1o(h:∀p∈scope.names,p.2= .free ->∃c,env.cells.lookup p.1=some c):closureFor scope env=pure (iV env scope.names []):=by
 have key:∀(names:List (Str×NameKind)) (cs:List (Str×Addr)),(∀p∈names,p.2= .free ->∃c,env.cells.lookup p.1=some c) ->
   (forIn names cs fun(x:Str×NameKind) (r:List (Str×Addr))=>(if x.2== .free then do let a<- cellOf env x.1;pure (ForInStep.yield ((x.1,a)::r)) else pure (ForInStep.yield r):Sem _))=pure (iV env names cs):=by
  intro names;induction names with
  | nil=>intro cs _;rfl
  | cons p r ih=>
   intro cs hh;obtain⟨n,k⟩:=p;have hr:∀p∈r,p.2= .free ->∃c,env.cells.lookup p.1=some c:=fun p hp=>hh p (zV _ hp);rw[List.forIn_cons];unfold iV;by_cases hk:(k==NameKind.free)=true
   ·obtain⟨c,e⟩:=hh (n,k) zW (by simpa using hk)
    have e' :cellOf env n=pure c:=by unfold cellOf;rw[e]
    simp only [hk,if_true,e',pure_bind,e,Option.getD_some];exact ih _ hr
   ·have hk' :(k==NameKind.free)=false:=by simpa using hk
    simp only [hk',Bool.false_eq_true,if_false,pure_bind];exact ih _ hr
 unfold closureFor;have:=key scope.names [] h
 simpa using this
theorem O5:∀(names:List (Str×NameKind)) (cs:List (Str×Addr)),(∀p∈names,p.2= .free ->∃c,env.cells.lookup p.1=some c) ->(x,c)∈iV env names cs ->(x,c)∈cs\/ ((x,NameKind.free)∈names/\env.cells.lookup x=some c)
 | [],_,_,m=> .inl m
 | (n,k)::r,cs,hh,m=>by
  unfold iV at m;have hr:∀p∈r,p.2= .free ->∃c,env.cells.lookup p.1=some c:=fun p hp=>hh p (zV _ hp);rcases O5 r _ hr m with z | ⟨z1,z2⟩
  ·split at z
   ·rename_i hk;rcases zT.mp z with e | z
    ·cases e;have e2:k= .free:=by simpa using hk
     subst e2;obtain⟨c,e⟩:=hh (_,.free) zW rfl;refine .inr ⟨zW,?_⟩;have e' :env.cells.lookup x=some c:=e;rw[e'];rfl
    ·exact .inl z
   ·exact .inl z
  ·exact .inr ⟨zV _ z1,z2⟩
theorem Jh(e:env.cells.lookup x=some c):∀(names:List (Str×NameKind)) (cs:List (Str×Addr)),((x,NameKind.free)∈names\/cs.lookup x=some c) ->(∀c',cs.lookup x=some c' ->c' =c) ->(iV env names cs).lookup x=some c
 | [],cs,h,_=>by
  rcases h with h | h
  ·cases h
  ·exact h
 | (n,k)::r,cs,h,hu=>by
  unfold iV;by_cases hk:(k==NameKind.free)=true
  ·rw[if_pos hk];by_cases hn:x=n
   ·subst hn;refine Jh e r _ (.inr ?_) fun c' q=> ?_
    ·rw[List.lookup_cons];simp [e]
    ·rw[List.lookup_cons] at q;simp [e] at q;exact q.symm
   ·have hb:(x==n)=false:=by rw[beq_eq_false_iff_ne];exact hn
    refine Jh e r _ ?_ fun c' q=> ?_
    ·rcases h with h | h
     ·rcases zT.mp h with z | z
      ·cases z;exact absurd rfl hn
      ·exact .inl z
     ·refine .inr ?_;rw[List.lookup_cons,hb];exact h
    ·rw[List.lookup_cons,hb] at q;exact hu c' q
  ·rw[if_neg hk];refine Jh e r cs ?_ hu;rcases h with h | h
   ·rcases zT.mp h with z | z
    ·cases z;exact absurd rfl hk
    ·exact .inl z
   ·exact .inr h
theorem O6(inj:∀x y c,env.cells.lookup x=some c ->env.cells.lookup y=some c ->x=y):∀(names:List (Str×NameKind)) (cs:List (Str×Addr)),(names.map (·.1)).Nodup ->(∀p∈names,p.2= .free ->∃c,env.cells.lookup p.1=some c) ->
  (cs.Pairwise fun x y=>x.2≠y.2) ->(∀p∈cs,env.cells.lookup p.1=some p.2/\p.1∉names.map (·.1)) ->(iV env names cs).Pairwise fun x y=>x.2≠y.2
 | [],_,_,_,h,_=>h
 | (n,k)::r,cs,nd,hh,h,hc=>by
  unfold iV;rw[List.map_cons,List.nodup_cons] at nd;have hr:∀p∈r,p.2= .free ->∃c,env.cells.lookup p.1=some c:=fun p hp=>hh p (zV _ hp);have hc' :∀p∈cs,env.cells.lookup p.1=some p.2/\p.1∉r.map (·.1):=fun p hp=>⟨(hc p hp).1,fun z=>(hc p hp).2 (by rw[List.map_cons];exact zV _ z)⟩
  by_cases hk:(k==NameKind.free)=true
  ·rw[if_pos hk];obtain⟨c,e⟩:=hh (n,k) zW (by simpa using hk)
   have e' :env.cells.lookup n=some c:=e;rw[e'];refine O6 inj r _ nd.2 hr (List.pairwise_cons.mpr ⟨fun p hp z=> ?_,h⟩) fun p hp=> ?_
   ·have z' :c=p.2:=z;have q:=(hc p hp).1;rw[<- z'] at q;have:=inj _ _ _ e' q;exact(hc p hp).2 (by rw[List.map_cons,<- this];exact zW)
   ·rcases zT.mp hp with rfl | hp
    ·exact⟨e',nd.1⟩
    ·exact hc' p hp
  ·rw[if_neg hk];exact O6 inj r cs nd.2 hr h hc'
theorem O7{scope:Scope}{env:Env}{x:Str}:∀(names:List (Str×NameKind)) {k:NameKind},names.lookup x=some k ->(names.map fun(n,k)=>if (k==NameKind.free&&env.scope.kind== .function&&env.kindOf n==some .cell) then(n,NameKind.cell) else(n,k)).lookup x=some k\/
   (k= .free/\ (names.map fun(n,k)=>if (k==NameKind.free&&env.scope.kind== .function&&env.kindOf n==some .cell) then(n,NameKind.cell) else(n,k)).lookup x=some .cell)
 | [],_,h=>by simp at h
 | (n,k0)::r,k,h=>by
  have ih:= @O7 scope env x r k;show List.lookup x ((if (k0==NameKind.free&&env.scope.kind== .function&&env.kindOf n==some .cell)=true then(n,NameKind.cell) else(n,k0))::_)=_\/ (_/\List.lookup x ((if (k0==NameKind.free&&env.scope.kind== .function&&env.kindOf n==some .cell)=true then(n,NameKind.cell) else(n,k0))::_)=_);cases hx:x==n with
  | true=>
   simp only [List.lookup_cons,hx] at h;cases h;by_cases hc:(k0==NameKind.free&&env.scope.kind== .function&&env.kindOf n==some .cell)=true
   ·rw[if_pos hc];simp only [Bool.and_eq_true] at hc;exact .inr ⟨by simpa using hc.1.1,by simp only [List.lookup_cons,hx]⟩
   ·rw[if_neg hc];exact .inl (by simp only [List.lookup_cons,hx])
  | false=>
   simp only [List.lookup_cons,hx] at h;by_cases hc:(k0==NameKind.free&&env.scope.kind== .function&&env.kindOf n==some .cell)=true
   ·rw[if_pos hc];simp only [List.lookup_cons,hx];exact ih h
   ·rw[if_neg hc];simp only [List.lookup_cons,hx];exact ih h
def fB(scope:Scope)(C:Addr)(env:Env):Env:=
 {scope:=relabel scope env,locals:=C,globals:=env.globals,cells:=cellsFrom (C+1) scope.names (iV env scope.names []),qual:=env.qual,func:=none,code:=env.code,frame:=env.frame,builtins:=env.builtins}
def blk(X:Cx)(scope:Scope)(N:List Str)(C:Addr)(s₀:Shared)(H₀:Hp)(fp:List Addr):Cx:=
 {X with env:=fB scope C X.env,N:=N,s₀:=s₀,H₀:=H₀,outer:=X.stack,stack:=X.stack,ex:=fp,fn:=fun x=>scope.names.lookup x==some .cell,pn:= [],xe:=fun _ _=>False}
def nj(own:Nat)(caps:List Nat)(σ:St):St:=List.replicate own none++caps.map fun j=>(σ[j]?).join
structure eV (N:List Str) (sc:Scope) (own:List Str) (caps:List Nat) (env:Env) (N' :List Str):Prop where
 kind:sc.kind= .function
 nd:N'.Nodup
 snd:(sc.names.map (·.1)).Nodup
 free:∀p∈sc.names,p.2= .free ->env.kindOf p.1=some .cell\/env.kindOf p.1=some .free
 names:N' =own++caps.map fun j=>N.getD j ""
 caps:∀j∈caps,j<N.length/\sc.names.lookup (N.getD j "")=some .free
theorem zus
  (hQ:Q (newEnv scope s.heap.objs.size g (cellsFrom (s.heap.objs.size+1) scope.names cl) q none .none (some env) builtinsNs) {s with heap:=pushCells (s.heap.push {cls:= .type "dict",data:= .dict #[]}) scope.names}):
  wpAny M A (newFunctionEnv scope g cl [] q none .none (some env)) Q E s:=by
 simp only [newFunctionEnv,Option.isSome_some,if_true];refine z6 (wpAny_alloc ?_);refine z6 (wpAny_layCells _ (fun name kind cells=>by cases hkc:kind==NameKind.cell<;>simp [hkc]) _ _ _ _ ?_)
 rw[show({s with heap:=s.heap.push {cls:= .type "dict",data:= .dict #[]}}:Shared).heap.objs.size=s.heap.objs.size+1 from Heap.size_push ..];simp only [List.forIn_nil];exact z6 (z7 (z7 hQ))
section
variable{X:Cx}{pins:bw}{σ:St}{H:Hp}{s:Shared}{sc:Scope}{own:List Str}{caps:List Nat}{N' :List Str}{fp:List Addr}
theorem Ji(I:Inv X pins σ H s)(S:eV X.N sc own caps X.env N'):∀p∈sc.names,p.2= .free ->∃c,X.env.cells.lookup p.1=some c:=fun p hp hk=>I.ok.has _ (S.free p hp hk)
theorem Jj(I:Inv X pins σ H s)(S:eV X.N sc own caps X.env N')(e:(fB sc s.heap.objs.size X.env).cells.lookup x=some c):
  (X.env.cells.lookup x=some c/\c<s.heap.objs.size/\sc.names.lookup x≠some .cell)\/ (s.heap.objs.size+1<=c/\ (pushCells (s.heap.push {cls:= .type "dict",data:= .dict #[]}) sc.names).IsCell c none):=by
 have m:=mem_of_lookup e;have sz:(s.heap.push {cls:= .type "dict",data:= .dict #[]}).objs.size=s.heap.objs.size+1:=Heap.size_push ..;have m' :(x,c)∈cellsFrom (s.heap.push {cls:= .type "dict",data:= .dict #[]}).objs.size sc.names (iV X.env sc.names []):=by rw[sz];exact m
 rcases O3 sc.names _ _ m' with z | ⟨z1,z2,z3⟩
 ·rcases O5 sc.names [] (Ji I S) z with z | ⟨z1,z2⟩
  ·cases z
  ·obtain⟨v,hc⟩:=I.cell x c z2;refine .inl ⟨z2,hc.lt,fun q=> ?_⟩;have q' :=mem_of_lookup q;have:=S.snd;rw[List.Nodup,List.pairwise_map] at this;have d:∀(l:List (Str×NameKind)),(l.Pairwise fun a b=>a.1≠b.1) ->(x,NameKind.free)∈l ->(x,NameKind.cell)∈l ->False:=by
    intro l;induction l with
    | nil=>intro _ h;cases h
    | cons a r ih=>
     intro hp h1 h2;obtain⟨p1,p2⟩:=List.pairwise_cons.mp hp;rcases zT.mp h1 with e1 | h1<;>rcases zT.mp h2 with e2 | h2
     ·rw[<- e1] at e2;cases e2
     ·exact p1 _ h2 (by rw[<- e1])
     ·exact p1 _ h1 (by rw[<- e2])
     ·exact ih p2 h1 h2
   exact d _ this z1 q'
 ·exact .inr ⟨by rw[sz] at z1;exact z1,z2⟩
theorem O8(I:Inv X pins σ H s)(S:eV X.N sc own caps X.env N')(hk:sc.names.lookup x=some .free)(e:X.env.cells.lookup x=some c):(fB sc s.heap.objs.size X.env).cells.lookup x=some c:=by
 show(cellsFrom _ sc.names (iV X.env sc.names [])).lookup x=some c;rw[O2]
 ·exact Jh e _ _ (.inl (mem_of_lookup hk)) fun c' q=>by cases q
 ·intro p hp hc z;have q:=mem_of_lookup hk;have:=S.snd;rw[List.Nodup,List.pairwise_map] at this;have d:∀(l:List (Str×NameKind)),(l.Pairwise fun a b=>a.1≠b.1) ->(x,NameKind.free)∈l ->p∈l ->False:=by
   intro l;induction l with
   | nil=>intro _ h;cases h
   | cons a r ih=>
    intro O9 h1 h2;obtain⟨p1,p2⟩:=List.pairwise_cons.mp O9;rcases zT.mp h1 with e1 | h1<;>rcases zT.mp h2 with e2 | h2
    ·rw[<- e1] at e2;subst e2;cases hc
    ·exact p1 _ h2 (by rw[<- e1];exact z.symm)
    ·exact p1 _ h1 (by rw[<- e2];exact z)
    ·exact ih p2 h1 h2
  exact d _ this q hp
theorem W0(I:Inv X pins σ H s)(S:eV X.N sc own caps X.env N')(Eh:∀x c v,X.env.cells.lookup x=some c ->s.heap.IsCell c v ->h'.IsCell c v)(i:Nat)(x:Str)(v:V)(h1:N'[i]?=some x)(h2:(nj own.length caps σ)[i]?=some (some v)):
  ∃u,RelV v u/\Look (fB sc s.heap.objs.size X.env) h' m' x u:=by
 have h2' :(nj own.length caps σ)[i]?=some (some v):=h2;have h1' :N'[i]?=some x:=h1;unfold nj at h2';rw[S.names] at h1';by_cases hi:i<own.length
 ·rw[List.getElem?_append_left (by simpa using hi),List.getElem?_replicate] at h2'
  split at h2' <;>cases h2'
 ·rw[List.getElem?_append_right (by simpa using hi),List.getElem?_map,List.length_replicate] at h2'
  rw[List.getElem?_append_right (by omega),List.getElem?_map] at h1'
  cases hj:caps[i - own.length]? with
  | none=>rw[hj] at h1';cases h1'
  | some j=>
   rw[hj] at h1' h2';obtain⟨j1,j2⟩:=S.caps j (yZ hj);have hx:X.N.getD j "" =x:=by simpa using h1'
   have hσ:σ[j]?=some (some v):=by
    have:(σ[j]?).join=some v:=by simpa using h2'
    cases q:σ[j]? with
    | none=>rw[q] at this;cases this
    | some o=>rw[q] at this;have:o=some v:=this;rw[this]
   rw[hx] at j2;have hN:X.N[j]?=some x:=by
    rw[List.getD_eq_getElem?_getD,List.getElem?_eq_getElem j1] at hx;rw[List.getElem?_eq_getElem j1]
    simpa using hx
   obtain⟨m,hn,hloc⟩:=I.loc;have kx:=S.free (x,.free) (mem_of_lookup j2) rfl;have vis:oO X.env.scope x:=by
    rcases kx with k | k
    ·exact .inr (.inl k)
    ·exact .inr (.inr k)
   obtain⟨u,ru,l⟩:=hloc j x v hN hσ vis;refine⟨u,ru,.inr ⟨?_,?_⟩⟩
   ·rcases O7 (scope:=sc) (env:=X.env) sc.names j2 with h | ⟨_,h⟩
    ·exact .inr h
    ·exact .inl h
   ·rcases l with ⟨k,_⟩ | ⟨_,c,ec,hc⟩
    ·have k' :X.env.kindOf x=some .local:=k;have W3 :X.env.kindOf x=some .cell\/X.env.kindOf x=some .free:=kx;rw[k'] at W3;rcases W3 with z | z<;>cases z
    ·exact⟨c,O8 I S j2 ec,Eh x c _ ec hc⟩
theorem zu3(I:Inv X pins σ H s)(S:eV X.N sc own caps X.env N')(hf:∀b∈fp,gj X pins H b)(hl:∀b∈fp,b<s.heap.objs.size):
  Inv (blk X sc N' s.heap.objs.size s H fp) [] (nj own.length caps σ) H {s with heap:=pushCells (s.heap.push {cls:= .type "dict",data:= .dict #[]}) sc.names}:=by
 have keep:∀b o,s.heap.get? b=some o ->(pushCells (s.heap.push {cls:= .type "dict",data:= .dict #[]}) sc.names).get? b=some o:=fun b o e=>pushCells_keeps _ _ b o (zZ _ e);have ok:=I.ok;have inj:∀x y c,(fB sc s.heap.objs.size X.env).cells.lookup x=some c ->(fB sc s.heap.objs.size X.env).cells.lookup y=some c ->x=y:=fun x y c e1 e2=>by
  refine name_of_addr (cs:=(fB sc s.heap.objs.size X.env).cells) ?_ (mem_of_lookup e1) (mem_of_lookup e2);refine O4 _ _ _ (O6 ok.inj _ _ S.snd (Ji I S) List.Pairwise.nil (fun p hp=>by cases hp)) fun p hp=> ?_
  rcases O5 (x:=p.1) (c:=p.2) sc.names [] (Ji I S) hp with z | ⟨_,z⟩
  ·cases z
  ·obtain⟨v,hc⟩:=I.cell _ _ z;exact Nat.lt_succ_of_lt hc.lt
 have frC:∀b,s.heap.objs.size<=b ->H b=none:=fun b hb=>I.hok.fresh hb;have Pa:(fB sc s.heap.objs.size X.env).scope.kind= .function:=S.kind;refine⟨⟨ok.mod,Pa,ok.glob,ok.blt,zM _,inj,fun x hx=> ?_,fun x c hfn e=> ?_,ok.hd,ok.frames,.inl rfl,fun b hb=>⟨zJ (hl b hb),fun x c e z=> ?_⟩,I.bs,zN ok.zy I.sz,fun b o e hb=> ?_,fun b hb z=> ?_,I.stack,I.stkFree⟩,
  rfl,I.bare,Un.kept keep,⟨_,(Heap.Ns.new s.heap (.type "dict")).keeps (pushCells_keeps _ _),fun i x v h1 h2 h3=> ?_⟩,fun x c e=> ?_,frC _ (zM _),fun x c e=> ?_,fun p hp=>absurd (show p∈ ([]:bw) from hp) (by simp),I.hok.kept keep,?_⟩
 ·
  have hx' :(relabel sc X.env).names.lookup x=some .cell\/ (relabel sc X.env).names.lookup x=some .free:=hx;have:∃k,sc.names.lookup x=some k:=by
   have key:∀(l:List (Str×NameKind)) (k' :NameKind),(l.map fun(n,k)=>if (k==NameKind.free&&X.env.scope.kind== .function&&X.env.kindOf n==some .cell) then(n,NameKind.cell) else(n,k)).lookup x=some k' ->∃k,l.lookup x=some k:=by
    intro l;induction l with
    | nil=>intro k' h;simp at h
    | cons a r ih=>
     intro k' h;obtain⟨n,k0⟩:=a;cases hb:x==n with
     | true=>exact⟨k0,by simp [List.lookup_cons,hb]⟩
     | false=>
      have h2:List.lookup x ((if (k0==NameKind.free&&X.env.scope.kind== .function&&X.env.kindOf n==some .cell)=true then(n,NameKind.cell) else(n,k0))::(r.map _))=some k' :=h;obtain⟨k,hk⟩:=ih k' (by
       split at h2<;>(simp only [List.lookup_cons,hb] at h2;exact h2))
      exact⟨k,by simp only [List.lookup_cons,hb];exact hk⟩
   rcases hx' with h | h
   ·exact key _ _ h
   ·exact key _ _ h
  obtain⟨k,hk⟩:=this;rcases O7 (scope:=sc) (env:=X.env) sc.names hk with h | ⟨h1,h2⟩
  ·have hkk:k= .cell\/k= .free:=by
    have h' :(relabel sc X.env).names.lookup x=some k:=h;rcases hx' with z | z<;>rw[z] at h' <;>cases h' <;>simp
   rcases hkk with rfl | rfl
   ·exact Option.isSome_iff_exists.mp (W.cellsFrom_some sc.names _ _ (.inl hk))
   ·obtain⟨c,e⟩:=ok.has x (S.free (x,.free) (mem_of_lookup hk) rfl);exact⟨c,O8 I S hk e⟩
  ·subst h1;obtain⟨c,e⟩:=ok.has x (S.free (x,.free) (mem_of_lookup hk) rfl);exact⟨c,O8 I S hk e⟩
 ·
  have Pb :sc.names.lookup x=some .cell:=by
   have:(sc.names.lookup x==some NameKind.cell)=true:=hfn
   simpa using this
  rcases Jj I S e with ⟨_,_,z⟩ | ⟨z,_⟩
  ·exact absurd Pb z
  ·show s.heap.objs.size<=c;exact Nat.le_of_succ_le z
 ·rcases Jj I S e with ⟨z1,_,_⟩ | ⟨z1,_⟩
  ·exact(hf b hb).2.2.2.2.1 x c z1 z
  ·have:=hl b hb;rw[<- z] at this;exact yV _ (zL this (Nat.le_of_succ_le z1))
 ·have q:=(hf b hb).2.2.2.1;rcases q with q | q
  ·exact ok.wR b o e q
  ·have q2:b<X.base.objs.size:=zG e;exact yV _ (zL q2 (zN ok.zy q))
 ·rcases zT.mp (I.stkSub b z) with z | z
  ·exact(hf b hb).2.1 z
  ·exact(hf b hb).2.2.1 z
 ·exact W0 I S (fun x c v _ hc=>hc.keeps keep) i x v h1 h2
 ·rcases Jj I S e with ⟨z1,_,_⟩ | ⟨_,z⟩
  ·obtain⟨v,hc⟩:=I.cell x c z1;exact⟨v,hc.keeps keep⟩
  ·exact⟨_,z⟩
 ·rcases Jj I S e with ⟨z1,_,_⟩ | ⟨z,_⟩
  ·exact I.freeC x c z1
  ·exact frC c (Nat.le_of_succ_le z)
 ·show(nj own.length caps σ).length=N'.length;rw[S.names];unfold nj;simp
theorem zvp(I:Inv X pins σ H s)(S:eV X.N sc own caps X.env N')(hf:∀b∈fp,gj X pins H b)(B:Inv (blk X sc N' s.heap.objs.size s H fp) pG σ5 H5 s5):
  Inv (blk X sc N' s.heap.objs.size s H fp) pG (nj own.length caps σ) H5 s5:=by
 obtain⟨m,hn,_⟩:=B.loc;have kc:∀x c v,X.env.cells.lookup x=some c ->s.heap.IsCell c v ->s5.heap.IsCell c v:=fun x c v e ⟨o,ho,hd⟩=>by
  have nx:c∉fp:=fun z=>(hf c z).2.2.2.2.1 x c e rfl;by_cases hc:c∈frs X.stack
  ·obtain⟨sl,q⟩:=B.base.slot c o ho (I.freeC x c e) hc nx;exact⟨_,q,hd⟩
  ·exact⟨o,B.base.keep c o ho (I.freeC x c e) hc nx,hd⟩
 exact⟨B.ok,B.os,B.bare,B.base,⟨m,hn,fun i x v h1 h2 h3=>W0 I S kc i x v h1 h2⟩,B.cell,B.free,B.freeC,B.pin,B.hok,by show(nj own.length caps σ).length=N'.length;rw[S.names];unfold nj;simp⟩
end
abbrev W4(ifs:List Expr)(env:Env):Sem Bool:=forIn ifs true fun c r=>if r=true then do let ok<- isTrue c env (eval c env);pure (ForInStep.yield ok) else pure (ForInStep.yield r)
section
variable{prog:Program}{w:World}{A:Around}{R:Result ->Shared ->Prop}{s:Shared}
theorem ztu(I:Nat ->Shared ->Prop)
  (turn:∀n s,I n s ->wpAny (model prog w) A (pyNext it) (fun r s₁=>match r with
   | none=>R (.ok .next) s₁
   | some v=>wpAny (model prog w) A (letOwnedTupleGo target it v) (fun _ s₁' =>wpAny (model prog w) A (assign target env v) (fun _ s₂=>
     wpAny (model prog w) A (W4 ifs env) (fun ok s₃=>
      if ok=true then wpAny (model prog w) A (eval elt env) (fun x s₄=>
       wpAny (model prog w) A (call (.builtin "list.append") [acc,x]) (fun _ s₅=>∃m,m<n/\I m s₅) (fun _ _=>False) s₄) (fun _ _=>False) s₃
      else∃m,m<n/\I m s₃) (fun _ _=>False) s₂) (fun _ _=>False) s₁') (fun _ _=>False) s₁) (fun _ _=>False) s)
  (n:Nat) (h:I n s):
  codeAny (model prog w) A (.compLoop (.ListComp elt [⟨target,iter,ifs,0⟩] scope pos) 0 it acc env) R s:=by
 refine codeAny_loop rfl I (fun n s hI=> ?_) n h;show wpAny _ A ((compTurn (.ListComp elt [⟨target,iter,ifs,0⟩] scope pos) 0 it acc env).onRaise (fun x=>do noteFrame x env;theTreesLotGoes x)) _ _ s;refine wpAny_noted ?_;rw[compTurn_list];refine z6 (wpAny_standAt (z6 (wpAny_mono (turn n s hI) (fun r s₁ h₁=> ?_) fun _ _ h' =>h'.elim)));cases r with
 | none=>exact z7 h₁
 | some v=>
  refine z6 (wpAny_mono h₁ (fun _ s₁' h₁' => ?_) fun _ _ h' =>h'.elim);refine z6 (wpAny_mono h₁' (fun _ s₂ h₂=>z6 (wpAny_mono h₂ (fun ok s₃ h₃=> ?_) fun _ _ h' =>h'.elim)) fun _ _ h' =>h'.elim);cases ok with
  | false=>exact z7 ⟨rfl,h₃⟩
  | true=>
   exact z6 (z6 (wpAny_mono h₃ (fun x s₄ h₄=>z6 (wpAny_mono h₄ (fun _ s₅ h₅=>z7 (z7 ⟨rfl,h₅⟩)) fun _ _ h' =>h'.elim)) fun _ _ h' =>h'.elim))
end
def Jk(X:Cx)(ifs:List Expr)(t:TT):Prop:=
 ∀(pins:bw) (s:Shared) (σ:St) (H:Hp) (Q:Bool ->Hp ->Prop),Inv X pins σ H s ->t σ H Q ->wpAny (model X.prog X.w) X.A (W4 ifs X.env) (TP X pins σ Q) X.xe s
theorem zzt:Jk X [] (fun _ H Q=>Q true H):=fun pins s σ H Q I h=>wpAny_tests_nil ⟨H,I,h⟩
theorem zzy(h:PT X c t):Jk X [c] t:=fun pins s σ H Q I q=>wpAny_tests_one (h pins s σ H Q I q)
structure Ei (P:Program) (w:World) (K:W.Frag) (tg:Expr) (J:It) (fp:List Addr) (it:Addr) (tn:Nat ->Heap ->Prop) (cm:Cx ->Prop):Prop where
 mem:it∈fp
 obj:∀i h,tn i h ->∀b∈fp,∃o,h.get? b=some o/\∀v,o.data≠ .cell v
 keep:∀i h h',tn i h ->(∀b∈fp,∀o,h.get? b=some o ->h'.get? b=some o) ->tn i h'
 item:∀(X:Cx),X.prog=P ->X.w=w ->X.K=K ->cm X ->∀(i:Nat) (pins:bw) (s:Shared) (σ:St) (H:Hp) (E:bG),Inv X pins σ H s ->(∀b∈fp,gj X pins H b) ->tn i s.heap ->J.go i H ->
  wpAny (model P w) X.A (pyNext (.ref it)) (fun r s1=>∃u,r=some u/\
   wpAny (model P w) X.A (letOwnedTupleGo tg (.ref it) u) (fun _ s2=>∃x H',Inv X pins σ H' s2/\RelV x u/\J.yld i H x H' /\tn (i+1) s2.heap/\∀b∈fp,H' b=none) E s1) E s
 done:∀(X:Cx),X.prog=P ->X.w=w ->X.K=K ->cm X ->∀(i:Nat) (pins:bw) (s:Shared) (σ:St) (H:Hp) (E:bG),Inv X pins σ H s ->(∀b∈fp,gj X pins H b) ->tn i s.heap ->J.stop i H ->
  wpAny (model P w) X.A (pyNext (.ref it)) (fun r s1=>r=none/\Inv X pins σ H s1) E s
 self:∀(A:Around) (i:Nat) (s:Shared) (Q:bG) (E:bG),tn i s.heap ->Q (.ref it) s ->wpAny (model P w) A (pyIter (.ref it)) Q E s
def Pg(X:Cx)(pins:bw)(σ:St)(tg:Expr)(R:It ->Hp ->Prop)(itv:Value)(s2:Shared):Prop:=
 ∃(it:Addr) (fp:List Addr) (tn:Nat ->Heap ->Prop) (J:It) (H' :Hp) (cm:Cx ->Prop),itv= .ref it/\Inv X pins σ H' s2/\Ei X.prog X.w X.K tg J fp it tn cm/\tn 0 s2.heap/\ (∀b∈fp,gj X pins H' b)/\R J H' /\
  ∀Y:Cx,Y.A=X.A ->Y.calm=X.calm ->(∀b o u,H' b=some (.frz o u) ->Y.H₀ b=some (.frz o u)) ->cm Y
def Ph(X:Cx)(tg iter:Expr)(wi:TI):Prop:=
 ∀(pins:bw) (s:Shared) (σ:St) (H:Hp) (R:It ->Hp ->Prop),Inv X pins σ H s ->wi σ H R ->
  wpAny (model X.prog X.w) X.A (eval iter X.env) (fun v s1=>wpAny (model X.prog X.w) X.A (pyIter v) (Pg X pins σ tg R) X.xe s1) X.xe s
theorem W5(hc:X.calm=true)(hi:PI X tg iter wi):Ph X tg iter wi:=fun pins s σ H R I h=>
 bF (hi pins s σ H R I h) fun v s1 h1=>bF h1 fun itv s2 hq1=>by obtain⟨it,fp,tn,J,H',e,I',T,st,f,r⟩:=hq1;exact⟨it,fp,tn,J,H',fun Y=>Y.calm=true,e,I',⟨T.mem,T.obj,T.keep,T.item,T.done,T.self⟩,st,f,r,fun Y _ q _=>q.trans hc⟩
def vV(acc:Addr)(J:It)(σ' :St)(g:TG)(tc:TT)(te:TE)(Q:V ->Hp ->Prop)(H1:Hp):Prop:=
 ∃W:Nat ->Nat ->List V ->Hp ->Prop,(∃m,W 0 m [] H1)/\∀i m vs H,W i m vs H ->H acc=some (.lst vs)/\vs.length<sizeLine+1/\
  ((J.stop i H/\Q (.ref acc) H)\/ (J.go i H/\vs.length<sizeLine/\∀x H',J.yld i H x H' ->g x σ' H' fun σ2 H2=>tc σ2 H2 fun b H3=>
   if b=true then te σ2 H3 fun v H4=>H4 acc=some (.lst vs)/\∃m',m' <m/\W (i+1) m' (vs++ [v]) (upd H4 acc (.lst (vs++ [v])))
   else∃m',m' <m/\W (i+1) m' vs H3))
def Ej(own:Nat)(caps:List Nat)(wi:TI)(g:TG)(tc:TT)(te:TE):TE:=fun σ H Q=>wi σ H fun J H1=>∀acc,H1 acc=none ->vV acc J (nj own caps σ) g tc te Q (upd H1 acc (.lst []))
section
variable{X:Cx}{sc:Scope}{own:List Str}{caps:List Nat}{N' :List Str}{elt tg iter:Expr}{ifs:List Expr}{pos:Pos}{wi:TI}{g:TG}{tc:TT}{te:TE}
theorem W6(S:eV X.N sc own caps X.env N')(hi:Ph X tg iter wi)
  (hg:∀C s₀ H₀ fp,PG (blk X sc N' C s₀ H₀ fp) tg g) (ht:∀C s₀ H₀ fp,Jk (blk X sc N' C s₀ H₀ fp) ifs tc) (he:∀C s₀ H₀ fp,PE (blk X sc N' C s₀ H₀ fp) elt te)
  (ee:e= .ListComp elt [⟨tg,iter,ifs,0⟩] sc pos) (hs:∀x,foldedSetIterable iter X.env x=pure x)
  (I:Inv X pins σ H s) (h:Ej own.length caps wi g tc te σ H Q)
  (fin:∀acc C H' s5,Inv X pins σ H' s5 ->Q (.ref acc) H' ->(∃m,s5.heap.Ns C m) ->H' C=none ->C≠X.env.locals ->X.s₀.heap.objs.size<=C ->(∀x c,X.env.cells.lookup x=some c ->c≠C) ->(∀p∈X.pn++pins,p.1≠C) ->C∉X.fs ->
   compPost (model X.prog X.w) X.A X.xe use Qv (.ref acc) C (.ok .next) s5):
  wpAny (model X.prog X.w) X.A (comprehension e sc X.env ps (newList []) false (eval iter X.env) use) Qv X.xe s:=by
 subst ee;refine wpAny_comprehension_free (g:=⟨tg,iter,ifs,0⟩) (gs:= []) (cl:=iV X.env sc.names []) rfl hs (z1o (Ji I S)) S.kind ?_ (bF (hi pins s σ H _ I h) fun v s1 h1=>bF h1 fun itv s2 h2=> ?_)
 ·intro p hp hk;have nd:=S.snd;rw[List.Nodup,List.pairwise_map] at nd;have d:∀(l:List (Str×NameKind)),(l.Pairwise fun a b=>a.1≠b.1) ->p∈l ->l.lookup p.1=some .local:=by
   intro l;induction l with
   | nil=>intro _ h;cases h
   | cons a r ih=>
    intro O9 h1;obtain⟨p1,p2⟩:=List.pairwise_cons.mp O9;rcases zT.mp h1 with e1 | h1
    ·subst e1;rw[List.lookup_cons];simp [hk]
    ·have hb:(p.1==a.1)=false:=by rw[beq_eq_false_iff_ne];exact Ne.symm (p1 p h1)
     rw[List.lookup_cons,hb];exact ih p2 h1
  exact d _ nd hp
 obtain⟨it,fp,tn,J,H2,cm,rfl,I2,T,st2,f2,R2,hcm⟩:=h2;have hp0:=I2.fresh;refine wpAny_newObj_type ?_;have I3:=I2.lnew (its:= []) (ys:= []) (t' :=s2.toks) .nil (Nat.zero_le _);generalize hacc:s2.heap.objs.size=acc at*;obtain⟨W,⟨m0,w0⟩,turn⟩:=R2 acc hp0;have f3:∀b∈fp,gj X pins (upd H2 acc (.lst [])) b:=fun b hb=>by
  refine⟨?_,(f2 b hb).2⟩;obtain⟨o,eo,_⟩:=T.obj _ _ st2 b hb;rw[c7 (Nat.ne_of_lt (by rw[<- hacc];exact Heap.lt_size eo))]
  exact(f2 b hb).1
 have hc:∀C s₀,cm (blk X sc N' C s₀ (upd H2 acc (.lst [])) fp):=fun C s₀=>hcm _ rfl rfl fun b o u e=>by rw[show(blk X sc N' C s₀ (upd H2 acc (.lst [])) fp).H₀=upd H2 acc (.lst []) from rfl,c7 (lG e hp0)];exact e
 have hlt:∀b∈fp,b< (s2.heap.push {cls:= .type "list",data:= .seq ([]:List Value).toArray}).objs.size:=fun b hb=>by
  obtain⟨o,eo,_⟩:=T.obj _ _ st2 b hb;rw[Heap.size_push];exact Nat.lt_succ_of_lt (zG eo)
 have st3:tn 0 (s2.heap.push {cls:= .type "list",data:= .seq ([]:List Value).toArray}):=T.keep _ _ _ st2 fun b hb o e=>zZ _ e;refine zus ?_;show codeAny _ _ (.compStart (.ListComp elt [⟨tg,iter,ifs,0⟩] sc pos) 0 (.ref it) (.ref acc) (fB sc (s2.heap.push {cls:= .type "list",data:= .seq ([]:List Value).toArray}).objs.size X.env)) (compPost _ _ _ use Qv (.ref acc) (s2.heap.push {cls:= .type "list",data:= .seq ([]:List Value).toArray}).objs.size) _;generalize hs3:({s2 with heap:=s2.heap.push {cls:= .type "list",data:= .seq ([]:List Value).toArray},toks:=s2.toks}:Shared)=s3 at*;have hh3:s2.heap.push {cls:= .type "list",data:= .seq ([]:List Value).toArray}=s3.heap:=by rw[<- hs3]
 have aaK :({s2 with heap:=s2.heap.push {cls:= .type "list",data:= .seq ([]:List Value).toArray}}:Shared)=s3:=by rw[<- hs3]
 rw[hh3] at hlt st3⊢;have I4:=zu3 I3 S f3 hlt;have W7:tn 0 (pushCells (s3.heap.push {cls:= .type "dict",data:= .dict #[]}) sc.names):=T.keep _ _ _ st3 fun b hb o e=>pushCells_keeps _ _ b o (zZ _ e);have key:codeAny (model X.prog X.w) X.A (.compLoop (.ListComp elt [⟨tg,iter,ifs,0⟩] sc pos) 0 (.ref it) (.ref acc) (fB sc s3.heap.objs.size X.env)) (compPost (model X.prog X.w) X.A X.xe use Qv (.ref acc) s3.heap.objs.size)
   {s3 with heap:=pushCells (s3.heap.push {cls:= .type "dict",data:= .dict #[]}) sc.names}:=by
  have stat:∀{H' :Hp},(∀b∈fp,H' b=none) ->∀b∈fp,gj (blk X sc N' s3.heap.objs.size s3 (upd H2 acc (.lst [])) fp) [] H' b:=fun hn b hb=>
   ⟨hn b hb,(I4.ok.Uy b hb).1,I4.ok.wU b hb,.inl hb,(I4.ok.Uy b hb).2,fun p hp=>absurd (show p∈ ([]:bw) from hp) (by simp)⟩
  refine ztu (fun n s' =>∃i vs σ' H',Inv (blk X sc N' s3.heap.objs.size s3 (upd H2 acc (.lst [])) fp) [] σ' H' s' /\tn i s'.heap/\ (∀b∈fp,H' b=none)/\W i n vs H') ?_ m0
   ⟨0,[],nj own.length caps σ,_,I4,W7,fun b hb=>(f3 b hb).1,w0⟩
  rintro n s5 ⟨i,vs,σ5,H5,I5,Aa,Il,w5⟩;obtain⟨ha5,Pj,⟨stop,qn⟩ | ⟨go,hz,step⟩⟩:=turn i n vs H5 w5
  ·refine bF (T.done (blk X sc N' s3.heap.objs.size s3 (upd H2 acc (.lst [])) fp) rfl rfl rfl (hc _ _) i [] s5 σ5 H5 _ I5 (stat Il) Aa stop) fun r s6 ⟨hr,I6⟩=> ?_;subst hr;have IX:Inv X pins σ H5 s6:=I3.call' (ch:=fp) I6.os I6.base I6.hok I6.bare fun b hb=>⟨(f3 b hb).2.2.2.1,(f3 b hb).2.1,(f3 b hb).2.2.2.2.1,(f3 b hb).2.2.2.2.2⟩;obtain⟨m6,hn6,_⟩:=I6.loc;refine fin acc s3.heap.objs.size H5 s6 IX qn ⟨m6,hn6⟩ I6.free (Nat.ne_of_gt I3.lt) I3.sz (fun x c e z=> ?_) (fun p hp z=> ?_) (I3.nofs (zM _))
   ·obtain⟨v,q⟩:=I3.cell x c e;exact absurd q.lt (by rw[z];exact yV _)
   ·exact absurd (zG (I3.pin p hp).1) (by rw[z];exact yV _)
  ·
   have Ly :Inv (blk X sc N' s3.heap.objs.size s3 (upd H2 acc (.lst [])) fp) [] (nj own.length caps σ) H5 s5:=zvp I3 S f3 I5;refine bF (T.item (blk X sc N' s3.heap.objs.size s3 (upd H2 acc (.lst [])) fp) rfl rfl rfl (hc _ _) i [] s5 _ H5 _ Ly (stat Il) Aa go) fun r s6 ⟨u,hr,h6⟩=> ?_;subst hr;refine bF h6 fun _ s7 hq2=> ?_;obtain⟨x,H7,I7,r7,y7,Pk,fr7⟩:=hq2;have I7' :=I7.pinned (stat fr7) (T.obj _ _ Pk);refine bF (hg _ _ _ _ _ s7 _ H7 x u _ I7' r7 (step x H7 y7)) fun _ s8 ⟨σ8,H8,I8,q8⟩=> ?_;refine bF (ht _ _ _ _ _ s8 σ8 H8 _ I8 q8) fun b s9 ⟨H9,I9,q9⟩=> ?_;have again:∀{vs' :List V} {σ' :St} {H' :Hp} {s' :Shared},Inv (blk X sc N' s3.heap.objs.size s3 (upd H2 acc (.lst [])) fp) ([]++jT fp s7.heap) σ' H' s' ->(∃m',m' <n/\W (i+1) m' vs' H') ->
     ∃m,m<n/\∃i vs σ' H',Inv (blk X sc N' s3.heap.objs.size s3 (upd H2 acc (.lst [])) fp) [] σ' H' s' /\tn i s'.heap/\ (∀b∈fp,H' b=none)/\W i m vs H' :=fun{vs' σ' H' s'} I' ⟨m',hm,w'⟩=>by
    refine⟨m',hm,i+1,vs',σ',H',I'.unpinned,T.keep _ _ _ Pk fun b hb o e=>(I'.pin (b,o) (zP _ (zP _ (Ij hb e)))).1,fun b hb=> ?_,w'⟩;obtain⟨o,e,d⟩:=T.obj _ _ Pk b hb;exact(I'.pin (b,o) (zP _ (zP _ (Ij hb e)))).2.1
   cases b with
   | false=>
    rw[if_neg Bool.false_ne_true] at q9⊢;exact again I9 q9
   | true=>
    rw[if_pos rfl] at q9⊢;refine bF (he _ _ _ _ _ s9 σ8 H9 _ I9 q9) fun y s10 rN=> ?_;obtain⟨v,W8,I10,r10,yd,q10⟩:=rN;refine bF (VJ (X:=blk X sc N' s3.heap.objs.size s3 (upd H2 acc (.lst [])) fp) _ s10 σ8 W8 (.ref acc) [v] (.ref acc) [y] (fun _ H' =>H' =upd W8 acc (.lst (vs++ [v]))) I10 rfl (.cons r10 .nil) ⟨acc,vs,v,rfl,rfl,yd,hz,rfl⟩) fun _ s11 oY=> ?_;obtain⟨_,H11,I11,_,e11⟩:=oY;subst e11;exact again I11 q10
 exact codeAny_compStart_list key (T.self _ _ _ _ _ W7 key)
end
def yg(K:W.Frag)(F Hx:Hp)(J:It)(ds:List D):Prop:=ds.length<=sizeLine/\∀(i:Nat) (H1 F1:Hp),Same F F1 ->Same F1 H1 ->Same Hx H1 ->
 (i=ds.length ->J.stop i H1)/\∀d,ds[i]?=some d ->J.go i H1/\∀x H',J.yld i H1 x H' ->∃F2,Gr F1 H1 F2 H' /\Rep K F2 d x
def Am:Hp:=fun _=>none
theorem W9:Same Am H:=fun _ _ e=>by cases e
def Xa(K:W.Frag)(F0 H0:Hp)(t:aZ)(E:XW):TI:=fun σ H R=>∃F Γ P,SR K F0 H0 F H σ Γ/\t Γ P E/\∀ds Γ' F' H' J Hx,SR K F0 H0 F' H' σ Γ' ->Same F F' ->Same Hx H' ->yg K F' Hx J ds ->P ds Γ' ->R J H'
def Pn(K:W.Frag)(F0 H0:Hp)(t:aZ)(E:XW):TI:=fun σ H R=>∃F Γ P,SR K F0 H0 F H σ Γ/\t Γ P E/\∀ds Γ' F' H' J,SR K F0 H0 F' H' σ Γ' ->Same F F' ->yg K F' Am J ds ->P ds Γ' ->R J H'
def QI(X:Cx)(F0 H0:Hp)(tg e:Expr)(t:aZ):Prop:=∀z E,Ctx (X.wsh z) F0 H0 E ->PI (X.wsh z) tg e (Pn X.K F0 H0 t E)
def Pr(X:Cx)(F0 H0:Hp)(tg e:Expr)(t:aZ):Prop:=∀z E,Ctx (X.wsh z) F0 H0 E ->PI (X.wsh z) tg e (Xa X.K F0 H0 t E)
theorem Ek(h:PI X tg e t)(hi:∀σ H R,t' σ H R ->t σ H R):PI X tg e t' :=fun pins s σ H R I q=>h pins s σ H R I (hi _ _ _ q)
theorem lJ(h:QI X F0 H0 tg e t):Pr X F0 H0 tg e t:=fun z E cx=>Ek (h z E cx) fun σ H R hq1=>by obtain⟨F,Γ,P,S,q,k⟩:=hq1;exact⟨F,Γ,P,S,q,fun ds Γ' F' H' J S' s' hJ hp=>k ds Γ' F' H' J Am S' s' W9 hJ hp⟩
def El(K:W.Frag)(tl:TE):TI:=fun σ H R=>tl σ H fun x H1=>∃a,x= .ref a/\ ((∃xs,fO K H1 a xs/\ (xs.length<=sizeLine ->R (wZ K a) H1))\/ (∃xs,iK K H1 a xs/\ (xs.length<=sizeLine ->R (vM K a) H1)))
theorem z1q(hl:PE X l tl):PI X tg l (El X.K tl):=by
 intro pins s σ H R I h;refine bF (hl pins s σ H _ I h) fun v s1 hq2=> ?_;obtain⟨x,H1,I1,r1,q1⟩:=hq2;obtain⟨a,e,q⟩:=q1;subst e;cases r1;rcases q with ⟨xs,hq,q⟩ | ⟨xs,hq,q⟩
 ·obtain⟨its,rv,p,hz⟩:=I1.list hq;refine wpAny_pyIter_list p.isList ?_;refine⟨s1.heap.objs.size,[s1.heap.objs.size],_,_,H1,rfl,I1.kept (t' :=s1.toks) fun b o e=>zZ _ e,Va a _,⟨_,zY _ rfl,rfl,rfl⟩,fun b hb=> ?_,q hz⟩;obtain rfl:b=s1.heap.objs.size:=by simpa using hb
  exact I1.fpOk (zM _) (I1.hok.fresh (zM _))
 ·obtain⟨its,rv,p,hz⟩:=I1.tuple hq;refine wpAny_pyIter_tuple (show s1.heap.IsTuple a its.toArray from p) ?_;refine⟨s1.heap.objs.size,[s1.heap.objs.size],_,_,H1,rfl,I1.kept (t' :=s1.toks) fun b o e=>zZ _ e,Vb a _,⟨_,zY _ rfl,rfl,rfl⟩,fun b hb=> ?_,q hz⟩;obtain rfl:b=s1.heap.objs.size:=by simpa using hb
  exact I1.fpOk (zM _) (I1.hok.fresh (zM _))
theorem z14{K:W.Frag}{F Hx:Hp}{a:Addr}{vs:List V}{ds:List D}(hq:∀H1,Same F H1 ->iK K H1 a vs)(rs:ak K F ds vs)(hz:vs.length<=sizeLine):yg K F Hx (vM K a) ds:=by
 have hl:=gM rs;refine⟨by omega,fun i H1 F1 s1 s2 s3=>⟨fun e=>⟨vs,hq H1 (s1.trans s2),by omega⟩,fun d hd=> ?_⟩⟩
 obtain⟨v,hv,rv⟩:=nD rs hd;refine⟨⟨vs,v,hq H1 (s1.trans s2),hv⟩,fun x H' y=> ?_⟩;obtain⟨rfl,y⟩:=y;have:=y vs (hq _ (s1.trans s2));rw[hv] at this;cases this;exact⟨F1,Gr.refl s2,rv.up s1⟩
def iL(te:aH):aZ:=fun Γ P E=>te Γ (fun d Γ1=>match d with | .lst ds=>P ds Γ1 | .tup ds=>P ds Γ1 | _=>False) E
section
variable{X:Cx}{F0 H0:Hp}{e tg:Expr}{es:List Expr}{pos:Pos}{te:aH}{g:jD}{gs:lN}{ti:aZ}{tb:au}
theorem nq(h:QE X F0 H0 e te):QI X F0 H0 tg e (iL te):=fun z E cx=>Ek (z1q (h z E cx)) fun σ H R rN=>by obtain⟨F,Γ,P,S,q,k⟩:=rN;exact⟨F,Γ,_,S,q,fun d Γ1 F1 H1 v R1 s1 r1 h1=>by
 cases d with
 | lst ds=>
  unfold Rep at r1;obtain⟨a,vs,rfl,hq,rs⟩:=r1;refine⟨a,rfl,.inl ⟨vs,R1.g.seq hq,fun hz=>k ds Γ1 F1 H1 _ R1 s1 ?_ h1⟩⟩;refine⟨by rw[gM rs];exact hz,fun i H2 F2 s2 s3 s4=>⟨fun e=>⟨vs,s3.seq (s2.seq hq),by rw[e,gM rs];exact zM _⟩,fun d hd=> ?_⟩⟩
  obtain⟨v,hv,rv⟩:=nD rs hd;refine⟨⟨vs,v,s3.seq (s2.seq hq),hv⟩,fun x H' y=> ?_⟩;obtain⟨rfl,y⟩:=y;have:=y vs (s3.seq (s2.seq hq));rw[hv] at this;cases this;exact⟨F2,Gr.refl s3,rv.up s2⟩
 | tup ds=>
  unfold Rep at r1;obtain⟨a,vs,rfl,hq,rs⟩:=r1;exact⟨a,rfl,.inr ⟨vs,lH R1.g hq,fun hz=>k ds Γ1 F1 H1 _ R1 s1 (z14 (fun H2 s=>lH s hq) rs hz) h1⟩⟩
 | _=>exact False.elim h1⟩
def pQ(ti:aZ)(g:jD)(tb:au):au:=fun D0 Γ E=>ti Γ (fun ds Γ1=>jW ds g tb D0 E Γ1) E
theorem Xb(hc:X.calm=true)(hi:QI X F0 H0 tg iter ti)(hg:QG X F0 H0 tg g)(hb:pL X F0 H0 body tb)(hs:∀x,foldedSetIterable iter X.env x=pure x:=by intro _;rfl):
  QS X F0 H0 (.For tg iter body [] pos) (pQ ti g tb):=fun z E cx=>
 mK (Ik (X:=X.wsh z) cx.po hc (hi z E cx) (hg z E cx) (hb z E cx) hs) fun Dn σ H oY=>by obtain⟨F,Γ,D2,R,h,k⟩:=oY;exact⟨F,Γ,_,R,h,fun ds Γ1 F1 H1 J R1 s1 hJ h1=>by
  obtain⟨I,i0,turn,done⟩:=h1;refine⟨fun i m σ H=>m=ds.length - i/\i<=ds.length/\∃F2 Γ2,SR X.K F0 H0 F2 H σ Γ2/\Same F1 F2/\I i Γ2,⟨ds.length,by simp,Nat.zero_le _,F1,Γ1,R1,.refl _,i0⟩,?_⟩
  rintro i m σ H ⟨rfl,hi,F2,Γ2,R2,s2,hI⟩;obtain⟨hstop,hgo⟩:=hJ.2 i H F2 s2 R2.g W9;by_cases hlt:i<ds.length
  ·obtain⟨go,yl⟩:=hgo ds[i] (zX hlt);refine .inr ⟨go,fun σ H=>∃F2 Γ2,SR X.K F0 H0 F2 H σ Γ2/\Same F1 F2/\I (i+1) Γ2,fun σ' H' p' =>⟨ds.length - (i+1),by omega,rfl,hlt,p'⟩,fun x H' y=> ?_⟩
   obtain⟨F3,gr,rx⟩:=yl x H' y;exact⟨F3,Γ2,_,ds[i],R2.grow gr,rx,turn i ds[i] Γ2 (zX hlt) hI,fun Γ4 F4 H4 σ4 R4 s4 p=>⟨F4,Γ4,{D2 with nx:=I (i+1),ct:=I (i+1),bk:=D2.nx},R4,p,⟨fun Γ5 F5 H5 σ5 R5 s5 q=>⟨F5,Γ5,R5,s2.trans (gr.f.trans (s4.trans s5)),q⟩,
    fun Γ5 F5 H5 σ5 R5 s5 q=>k.nx _ _ _ _ R5 (s1.trans (s2.trans (gr.f.trans (s4.trans s5)))) q,fun Γ5 F5 H5 σ5 R5 s5 q=>⟨F5,Γ5,R5,s2.trans (gr.f.trans (s4.trans s5)),q⟩,k.rt,k.rf,k.rT,k.rm⟩⟩⟩
  ·obtain rfl:i=ds.length:=by omega
   exact .inl ⟨hstop rfl,k.nx _ _ _ _ R2 (s1.trans s2) (done _ hI)⟩⟩
def rY(Γ:G2)(j:Nat):Slot:=match Γ[j]? with | some (.pu d)=> .pu d | _=> .no
def jZ(own:Nat)(caps:List Nat)(Γ:G2):G2:=List.replicate own .no++caps.map (rY Γ)
theorem zx2{K:W.Frag}{F H:Hp}{σ:St}{Γ:G2}(own:Nat)(caps:List Nat)(R:SR K F0 H0 F H σ Γ):SR K F H F H (nj own caps σ) (jZ own caps Γ):=by
 have len:(nj own caps σ).length=(jZ own caps Γ).length:=by simp [nj,jZ]
 have yh:∀(i:Nat) s o a,(jZ own caps Γ)[i]?=some s ->¬d9 s o a:=fun i s o a e=>by
  unfold jZ at e;by_cases hi:i<own
  ·rw[List.getElem?_append_left (by simpa using hi),List.getElem?_replicate] at e
   rw[if_pos hi] at e;cases e;exact fun h=>h
  ·rw[List.getElem?_append_right (by simpa using hi),List.getElem?_map] at e
   cases q:caps[i - (List.replicate own Slot.no).length]? with
   | none=>rw[q] at e;cases e
   | some j=>
    rw[q] at e;have e' :rY Γ j=s:=by simpa using e
    unfold rY at e';split at e' <;>(subst e';exact fun h=>h)
 refine⟨Gr.refl R.g,len,fun i s e=> ?_,fun i j a qX=>by obtain⟨s,o,e,_,h⟩:=qX;exact absurd h (yh i s o a e)⟩
 by_cases hi:i<own
 ·refine⟨none,?_,?_⟩
  ·unfold nj;rw[List.getElem?_append_left (by simpa using hi),List.getElem?_replicate,if_pos hi]
  ·unfold jZ at e;rw[List.getElem?_append_left (by simpa using hi),List.getElem?_replicate,if_pos hi] at e
   cases e;trivial
 ·unfold jZ at e;rw[List.getElem?_append_right (by simpa using hi),List.getElem?_map,List.length_replicate] at e
  cases q:caps[i - own]? with
  | none=>rw[q] at e;cases e
  | some j=>
   rw[q] at e;have e' :rY Γ j=s:=by simpa using e
   refine⟨(σ[j]?).join,?_,?_⟩
   ·unfold nj;rw[List.getElem?_append_right (by simpa using hi),List.getElem?_map,List.length_replicate,q];rfl
   ·unfold rY at e';split at e'
    ·rename_i d hd;subst e';obtain⟨o,e1,v,rfl,rv⟩:=R.sl j _ hd;exact⟨v,by rw[e1];rfl,rv⟩
    ·subst e';trivial
def o8(g:jD)(tc:TT2)(te:aH)(Γ0:G2)(x:D)(P:List D ->Prop):Prop:=g x Γ0 (fun Γ1=>tc Γ1 (fun b Γ2=>if b=true then te Γ2 (fun d _=>P [d]) jY else P []) jY) jY
def aQ(one:D ->(List D ->Prop) ->Prop):List D ->(List D ->Prop) ->Prop
 | [],P=>P []
 | x::xs,P=>one x fun ys=>aQ one xs fun zs=>P (ys++zs)
def bL(own:Nat)(caps:List Nat)(ti:aZ)(g:jD)(tc:TT2)(te:aH):aZ:=fun Γ P E=>ti Γ (fun ds Γ1=>aQ (o8 g tc te (jZ own caps Γ1)) ds fun ys=>P ys Γ1) E
def gW:TT2:=fun Γ P _=>P true Γ
def Em(X:Cx)(F0 H0:Hp)(ifs:List Expr)(t:TT2):Prop:=∀z E,Ctx (X.wsh z) F0 H0 E ->Jk (X.wsh z) ifs (DK X.K F0 H0 t E)
theorem qt:Em X F0 H0 [] gW:=fun z E cx pins s σ H Q I xQ=>by obtain⟨F,Γ,P,R,h,k⟩:=xQ;exact zzt pins s σ H Q I (k _ _ _ _ R (.refl _) h)
theorem u9(h:QT X F0 H0 c t):Em X F0 H0 [c] t:=fun z E cx=>zzy (h z E cx)
end
section
variable{X:Cx}{F0 H0:Hp}{elt tg iter:Expr}{ifs:List Expr}{sc:Scope}{own:List Str}{caps:List Nat}{N' :List Str}{pos:Pos}{te:aH}{g:jD}{tc:TT2}{ti:aZ}
def gX(K:W.Frag)(g:jD):TG:=fun v σ H Q=>∃F0 H0,IV K F0 H0 g jY v σ H Q
def tX(K:W.Frag)(t:TT2):TT:=fun σ H Q=>∃F0 H0,DK K F0 H0 t jY σ H Q
def eX(K:W.Frag)(t:aH):TE:=fun σ H Q=>∃F0 H0,xM K F0 H0 t jY σ H Q
theorem Xc(gr:Gr F H F' H')(h:F a=none)(e:H a=some (.lst vs)):F' a=none:=by
 cases q:F' a with
 | none=>rfl
 | some u=>
  rcases gr.n a u q h with z | ⟨⟨xs,e'⟩,z⟩
  ·rw[e] at z;cases z
  ·rw[e] at z;cases z;cases e'
theorem Xd{K:W.Frag}{F H:Hp}{σ:St}{Γ:G2}{J:It}{Hx:Hp}{ds:List D}{acc:Addr}{P:List D ->Prop}{Q:V ->Hp ->Prop}(R:SR K F0 H0 F H σ Γ)(hJ:yg K F Hx J ds)(hx:Same Hx H)(ha:H acc=none)
  (h:aQ (o8 g tc te (jZ own.length caps Γ)) ds P)
  (fin:∀ys F' H' vs,SR K F0 H0 F' H' σ Γ ->Same F F' ->H' acc=some (.lst vs) ->F' acc=none ->H0 acc=none ->ak K F' ys vs ->Apart σ Γ acc ->P ys ->Q (.ref acc) H'):
  vV acc J (nj own.length caps σ) (gX K g) (tX K tc) (eX K te) Q (upd H acc (.lst [])):=by
 obtain⟨R1,e1,e2,e3,ap⟩:=vO (ds:= []) (vs:= []) R ha (by unfold ak;rfl)
 have hx1:Same Hx (upd H acc (.lst [])):=fun b u e=>by rw[c7 (lG (hx b u e) ha)];exact hx b u e
 have xa:∀u,Hx acc≠some u:=fun u e=>by rw[hx acc u e] at ha;cases ha
 refine⟨fun i m vs H' =>m=ds.length - i/\i<=ds.length/\∃F' ys,SR K F0 H0 F' H' σ Γ/\Same F F' /\Same Hx H' /\H' acc=some (.lst vs)/\F' acc=none/\ak K F' ys vs/\vs.length<=i/\aQ (o8 g tc te (jZ own.length caps Γ)) (ds.drop i) (fun zs=>P (ys++zs)),
  ⟨ds.length,by simp,Nat.zero_le _,F,[],R1,.refl _,hx1,e1,e2,by unfold ak;rfl,zM _,by simpa using h⟩,?_⟩
 rintro i m vs H' ⟨rfl,hi,F',ys,R',sF,hx',ha',Pu,rs,lv,hc⟩;have hz:=hJ.1;refine⟨ha',by omega,?_⟩
 obtain⟨hstop,hgo⟩:=hJ.2 i H' F' sF R'.g hx';by_cases hlt:i<ds.length
 ·obtain⟨go,yl⟩:=hgo ds[i] (zX hlt);refine .inr ⟨go,by omega,fun x H2 y=> ?_⟩
  obtain⟨F2,gr,rx⟩:=yl x H2 y;rw[List.drop_eq_getElem_cons hlt] at hc;have R2:=R'.grow gr;refine⟨F2,H2,F2,jZ own.length caps Γ,_,ds[i],zx2 own.length caps R2,rx,hc,fun Γ3 F3 H3 σ3 R3 s3 q3=> ?_⟩;refine⟨F2,H2,F3,Γ3,_,R3,q3,fun b Γ4 F4 H4 R4 s4 q4=> ?_⟩;have Ao:Gr F' H' F4 H4:=gr.trans R4.gr;cases b with
  | false=>
   rw[if_neg Bool.false_ne_true] at q4;show∃m',m' <ds.length - i/\_;refine⟨ds.length - (i+1),by omega,rfl,hlt,F4,ys,R'.grow Ao,sF.trans Ao.f,fun b u e=>Ao.h b u (hx' b u e),Ao.h _ _ ha',Xc Ao Pu ha',rs.up Ao.f,by omega,?_⟩
   simpa using q4
  | true=>
   rw[if_pos rfl] at q4;show eX K te σ3 H4 _;refine⟨F2,H2,F4,Γ4,_,R4,q4,fun d Γ5 F5 H5 v R5 s5 rv q5=> ?_⟩;have Aq:Gr F' H' F5 H5:=gr.trans R5.gr;have a5:=Aq.h _ _ ha';have f5:=Xc Aq Pu ha';refine⟨a5,ds.length - (i+1),by omega,rfl,hlt,F5,ys++ [d],?_,sF.trans Aq.f,fun b u e=> ?_,lV,f5,xH (rs.up Aq.f) (Dt rv),by simp;omega,?_⟩
   ·have R6:=R'.grow Aq;refine⟨⟨R6.gr.f,fun b u e=> ?_,fun b u e=> ?_,R6.gr.n⟩,R6.len,fun j sl e=> ?_,R6.ap⟩
    ·rw[c7 (lG e f5)];exact R6.g b u e
    ·rw[c7 (lG e e3)];exact R6.gr.h b u e
    ·obtain⟨o,p1,p2⟩:=R6.sl j sl e;refine⟨o,p1,Du p2 (.refl _) fun c hc=>⟨(uo p2 hc).1,fun u q=> ?_⟩⟩;have:c≠acc:=fun z=>by subst z;exact ap j ⟨sl,o,e,p1,hc⟩
     rw[c7 this];exact q
   ·rw[c7 (fun z=>xa u (by rw[<- z];exact e))];exact Aq.h b u (hx' b u e)
   ·simpa [List.append_assoc] using q5
 ·obtain rfl:i=ds.length:=by omega
  refine .inl ⟨hstop rfl,fin ys F' H' vs R' sF ha' Pu e3 rs ap ?_⟩;rw[List.drop_length] at hc
  simpa [aQ] using hc
structure cQ (N:List Str) (sc:Scope) (own:List Str) (caps:List Nat) (En:Scope) (N' :List Str):Prop where
 kind:sc.kind= .function
 nd:N'.Nodup
 snd:(sc.names.map (·.1)).Nodup
 free:∀p∈sc.names,p.2= .free ->En.names.lookup p.1=some .cell\/En.names.lookup p.1=some .free
 names:N' =own++caps.map fun j=>N.getD j ""
 caps:∀j∈caps,j<N.length/\sc.names.lookup (N.getD j "")=some .free
theorem cQ.cs(h:cQ X.N sc own caps X.env.scope N'):eV X.N sc own caps X.env N' :=⟨h.kind,h.nd,h.snd,h.free,h.names,h.caps⟩
def QIg(X:Cx)(F0 H0:Hp)(tg e:Expr)(t:aZ):Prop:=∀z E,Ctx (X.wsh z) F0 H0 E ->Ph (X.wsh z) tg e (Xa X.K F0 H0 t E)
theorem zv3(S:cQ X.N sc own caps X.env.scope N')(hi:QIg X F0 H0 tg iter ti)
  (hg:∀C s₀ H₀ fp F0 H0,QG (blk X sc N' C s₀ H₀ fp) F0 H0 tg g) (ht:∀C s₀ H₀ fp F0 H0,Em (blk X sc N' C s₀ H₀ fp) F0 H0 ifs tc) (he:∀C s₀ H₀ fp F0 H0,QE (blk X sc N' C s₀ H₀ fp) F0 H0 elt te)
  (hn:own.length=n:=by rfl) (hs:∀x,foldedSetIterable iter X.env x=pure x:=by intro _;rfl):QF X F0 H0 (.ListComp elt [⟨tg,iter,ifs,0⟩] sc pos) (bL n caps ti g tc te):=by
 subst hn;rintro z E cx pins s σ H Q I ⟨F,Γ,P,R,h,k⟩;rw[show eval (.ListComp elt [⟨tg,iter,ifs,0⟩] sc pos) (X.wsh z).env=comprehension (.ListComp elt [⟨tg,iter,ifs,0⟩] sc pos) sc X.env _ (newList []) false (eval iter X.env) from eval_ListComp ..];refine W6 (X:=X.wsh z) (g:=gX X.K g) (tc:=tX X.K tc) (te:=eX X.K te) (Q:=Q) (cQ.cs (X:=X.wsh z) S) (hi z E cx) ?_ ?_ ?_ rfl hs I ?_ ?_
 ·rintro C s₀ H₀ fp pins s σ H v u Q I r ⟨rZ,su,q⟩;exact hg C s₀ H₀ fp rZ su ⟨fun _ _=>False,[]⟩ jY Ai pins s σ H v u Q I r q
 ·rintro C s₀ H₀ fp pins s σ H Q I ⟨rZ,su,q⟩;exact ht C s₀ H₀ fp rZ su ⟨fun _ _=>False,[]⟩ jY Ai pins s σ H Q I q
 ·rintro C s₀ H₀ fp pins s σ H Q I ⟨rZ,su,q⟩;exact he C s₀ H₀ fp rZ su ⟨fun _ _=>False,[]⟩ jY Ai pins s σ H Q I q
 ·exact⟨F,Γ,_,R,h,fun ds Γ1 F1 H1 J Hx R1 s1 hx hJ h1 acc ha=>Xd R1 hJ hx ha h1 fun ys F' H' vs R' sF a1 a2 a3 rs ap hp=>k ys Γ1 F' H' acc vs R' (s1.trans sF) a1 a2 a3 rs ap hp⟩
 ·rintro acc C H' s5 I5 q5 ⟨m,hn⟩ c1 c2 c3 c4 c5 c6;exact⟨m,hn,fun h' hs' =>⟨.ref acc,H',I5.turned (t' :=s5.toks) (it:=C) (fun b o hb e=>(hs'.2 b hb).trans e) c1 c2 (.inr c3) c4 c5,rfl,q5⟩⟩
theorem nO(S:cQ X.N sc own caps X.env.scope N')(hc:X.calm=true)(hi:Pr X F0 H0 tg iter ti)
  (hg:∀C s₀ H₀ fp F0 H0,QG (blk X sc N' C s₀ H₀ fp) F0 H0 tg g) (ht:∀C s₀ H₀ fp F0 H0,Em (blk X sc N' C s₀ H₀ fp) F0 H0 ifs tc) (he:∀C s₀ H₀ fp F0 H0,QE (blk X sc N' C s₀ H₀ fp) F0 H0 elt te)
  (hn:own.length=n:=by rfl) (hs:∀x,foldedSetIterable iter X.env x=pure x:=by intro _;rfl):QF X F0 H0 (.ListComp elt [⟨tg,iter,ifs,0⟩] sc pos) (bL n caps ti g tc te):=zv3 S (fun z E cx=>W5 hc (hi z E cx)) hg ht he hn hs
theorem Eo(hN:X.N.Nodup)(hi' :X.N[i]?=some y)(hy:X.env.scope.names.lookup y=some .local)(S:cQ X.N sc own caps X.env.scope N')(hc:X.calm=true)(hi:Pr X F0 H0 tg iter ti)
  (hg:∀C s₀ H₀ fp F0 H0,QG (blk X sc N' C s₀ H₀ fp) F0 H0 tg g) (ht:∀C s₀ H₀ fp F0 H0,Em (blk X sc N' C s₀ H₀ fp) F0 H0 ifs tc) (he:∀C s₀ H₀ fp F0 H0,QE (blk X sc N' C s₀ H₀ fp) F0 H0 elt te)
  (hn:own.length=n:=by rfl) (hsw:swapsWith (.ListComp elt [⟨tg,iter,ifs,0⟩] sc pos) (some (.Name y py)) spos.line X.env=pure true:=by rfl) (hs:∀x,foldedSetIterable iter X.env x=pure x:=by intro _;rfl):
  QS X F0 H0 (.Assign [.Name y py] (.ListComp elt [⟨tg,iter,ifs,0⟩] sc pos) spos) (iR i (bL n caps ti g tc te)):=by
 subst hn;rintro z E cx pins s σ H Dn I ⟨F,Γ,D2,R,h,k⟩;show wpAny _ _ (exec (.Assign [.Name y py] (.ListComp elt [⟨tg,iter,ifs,0⟩] sc pos) spos) X.env) _ _ _;rw[exec_Assign_Name_used _ _ _ _ hsw];refine z6 (wpAny_standAt (z6 ?_));show wpAny _ _ (do let _<- comprehension (.ListComp elt [⟨tg,iter,ifs,0⟩] sc pos) sc X.env _ (newList []) false (eval iter X.env) (some (assign (.Name y py) X.env))) _ _ s;refine z6 (wpAny_mono (W6 (X:=X.wsh z) (use:=some (assign (.Name y py) X.env)) (Qv:=fun _ s' =>SP (X.wsh z) pins Dn .next s') (g:=gX X.K g) (tc:=tX X.K tc) (te:=eX X.K te) (Q:=fun v H' =>Dn.nx (σ.set i (some v)) H') (cQ.cs (X:=X.wsh z) S) (W5 hc (hi z E cx)) ?_ ?_ ?_ rfl hs I ?_ ?_) (fun _ s' hq=>z7 (z7 hq)) fun _ _ e=>e)
 ·rintro C s₀ H₀ fp pins s σ H v u Q I r ⟨rZ,su,q⟩;exact hg C s₀ H₀ fp rZ su ⟨fun _ _=>False,[]⟩ jY Ai pins s σ H v u Q I r q
 ·rintro C s₀ H₀ fp pins s σ H Q I ⟨rZ,su,q⟩;exact ht C s₀ H₀ fp rZ su ⟨fun _ _=>False,[]⟩ jY Ai pins s σ H Q I q
 ·rintro C s₀ H₀ fp pins s σ H Q I ⟨rZ,su,q⟩;exact he C s₀ H₀ fp rZ su ⟨fun _ _=>False,[]⟩ jY Ai pins s σ H Q I q
 ·exact⟨F,Γ,_,R,h,fun ds Γ1 F1 H1 J Hx R1 s1 hx hJ h1 acc ha=>Xd R1 hJ hx ha h1 fun ys F' H' vs R' sF a1 a2 a3 rs ap hp=>k.nx _ _ _ _ (R'.setOw i a1 a2 a3 rs ap) (s1.trans sF) hp⟩
 ·rintro acc C H' s5 I5 q5 ⟨m,hn⟩ c1 c2 c3 c4 c5 c6;show wpAny _ _ (assign (.Name y py) X.env (.ref acc)) _ _ _;refine wpAny_assign_Name (UJ (X:=X.wsh z) I5 hN hi' (.inl hy) (v:= .ref acc) rfl (fun s6 I6 ⟨a,hsb,ha⟩=> ?_) (.inr hy));have ha' :a=X.env.locals\/X.env.cells.lookup y=some a:=ha;have hac:C≠a:=by
   rcases ha' with rfl | ha'
   ·exact c2
   ·exact fun z=>c4 y a ha' z.symm
  refine⟨m,hn.sameBut hsb hac,fun h' hs' =>⟨_,H',I6.turned (t' :=s6.toks) (it:=C) (fun b o hb e=>(hs'.2 b hb).trans e) c1 c2 (.inr c3) c4 c5,q5⟩⟩
end
def qu(K:W.Frag)(g:List D ->(List D ->Prop) ->Prop):List V ->Hp ->VK ->Prop:=fun vs H Q=>∃F ds P,Same F H/\ak K F ds vs/\g ds P/\∀es us l,ak K F es us ->H l=none ->P es ->Q (.ref l) (upd H l (.lst us))
section
variable{X:Cx}{F0 H0:Hp}{a b e:Expr}{es:List Expr}{pos p p2:Pos}{ta tb te:aH}{t:aZ}{x:Str}
def rB(g:List D ->(List D ->Prop) ->Prop)(t:aZ):aZ:=fun Γ P E=>t Γ (fun ds Γ1=>g ds fun es=>P es Γ1) E
theorem Xe{K:W.Frag}{g:List D ->(List D ->Prop) ->Prop}{E:XW}{σ:St}{H:Hp}{Q:VK}(h:Wh K F0 H0 (rB g t) E σ H Q):CZ (qu K g) (DN K F0 H0 t E) σ H Q:=by
 obtain⟨F,Γ,P,R,h,k⟩:=h;refine⟨F,Γ,_,R,h,fun ds Γ1 F1 H1 vs R1 s1 r1 h1=>⟨F1,ds,_,R1.g,r1,h1,fun es us l r hl hp=> ?_⟩⟩;obtain⟨R2,e1,e2,e3,ap⟩:=vO R1 hl r;exact k es Γ1 F1 _ l us R2 s1 e1 e2 e3 r ap hp
theorem Xf{id:String}{g:List D ->(List D ->Prop) ->Prop}(hc:∀z,cG (X.wsh z) (.builtin id) (qu X.K g))(hg:Gl X x)(hm:X.mg x=none)(hv:bootBuiltins x=some (.builtin id))(ha:QA X F0 H0 (e::es) t)(hn:x≠ "__name__" :=by decide)(hdb:(x==("__debug__" :Str))=false:=by decide)
  (he:starEach (e::es) X.env=(false,eval e X.env)::starEach es X.env:=by rfl) (hpl:(backTo pos (starEach es X.env)).any (·.1)=false:=by rfl):QF X F0 H0 (.Call (.Name x p) (e::es) [] pos) (rB g t):=fun z E cx=>
 jL (Mp (X:=X.wsh z) (hc z) hg hm hv (ha z E cx) hn hdb he hpl) fun _ _ _ h=>Xe h
theorem Px{T:String}{g:List D ->(List D ->Prop) ->Prop}(hc:∀z,cG (X.wsh z) (.type T) (qu X.K g))(hg:Gl X x)(hm:X.mg x=none)(hv:bootBuiltins x=some (.type T))(ha:QA X F0 H0 (e::es) t)(hn:x≠ "__name__" :=by decide)(hdb:(x==("__debug__" :Str))=false:=by decide)
  (he:starEach (e::es) X.env=(false,eval e X.env)::starEach es X.env:=by rfl) (hpl:(backTo pos (starEach es X.env)).any (·.1)=false:=by rfl):QF X F0 H0 (.Call (.Name x p) (e::es) [] pos) (rB g t):=fun z E cx=>
 jL (Ms (X:=X.wsh z) (hc z) hg hm hv (ha z E cx) hn hdb he hpl) fun _ _ _ h=>Xe h
theorem Jl{T:String}{g:List D ->(D ->Prop) ->Prop}(hc:∀z,cG (X.wsh z) (.type T) (nJ X.K g))(hg:Gl X x)(hm:X.mg x=none)(hv:bootBuiltins x=some (.type T))(ha:QA X F0 H0 (e::es) t)(hn:x≠ "__name__" :=by decide)(hdb:(x==("__debug__" :Str))=false:=by decide)
  (he:starEach (e::es) X.env=(false,eval e X.env)::starEach es X.env:=by rfl) (hpl:(backTo pos (starEach es X.env)).any (·.1)=false:=by rfl):QE X F0 H0 (.Call (.Name x p) (e::es) [] pos) (jP g t):=fun z E cx=>
 jL (Ms (X:=X.wsh z) (hc z) hg hm hv (ha z E cx) hn hdb he hpl) fun _ _ _ h=>WR h
end
def Ep:List D ->(List D ->Prop) ->Prop:=fun ds P=>match ds with | [.lst xs]=>P xs | [.tup xs]=>P xs | _=>False
theorem Xg:cG X (.type "list") (qu X.K Ep):=by
 rintro pins s σ H xs us Q I r ⟨F,ds,P,sF,rs,h,k⟩;unfold Ep at h;split at h
 ·unfold ak ak Rep at rs;obtain⟨v,_,rfl,⟨p,vs,rfl,hq,rs⟩,rfl⟩:=rs;exact VH pins s σ H _ us Q I r ⟨p,vs,rfl,.inl (sF.seq hq),fun l hl=>k _ _ l rs hl h⟩
 ·unfold ak ak Rep at rs;obtain⟨v,_,rfl,⟨p,vs,rfl,hq,rs⟩,rfl⟩:=rs;exact VH pins s σ H _ us Q I r ⟨p,vs,rfl,.inr (lH sF hq),fun l hl=>k _ _ l rs hl h⟩
 ·exact h.elim
def z1n:List D ->(D ->Prop) ->Prop:=fun ds P=>match ds with | [.lst xs]=>P (.tup xs) | [.tup xs]=>P (.tup xs) | _=>False
def cutD(xs:List D)(lo hi:Option Int):List D:=(xs.drop (HT.sIx xs.length 0 lo)).take (HT.sIx xs.length xs.length hi - HT.sIx xs.length 0 lo)
theorem zx8{K:W.Frag}{F:Hp}{ds:List D}{vs:List V}(r:ak K F ds vs)(lo hi:Option Int):ak K F (cutD ds lo hi) (oU vs lo hi):=by
 unfold cutD oU;rw[gM r];exact Wb _ (Wc _ r)
abbrev uz:=G2 ->(Option Int ->G2 ->Prop) ->XW ->Prop
def upO(K:W.Frag)(F0 H0:Hp)(t:uz)(E:XW):TO:=fun σ H Q=>∃F Γ P,SR K F0 H0 F H σ Γ/\t Γ P E/\∀o Γ' F' H',SR K F0 H0 F' H' σ Γ' ->Same F F' ->P o Γ' ->Q o H'
def QO(X:Cx)(F0 H0:Hp)(e:Option Expr)(t:uz):Prop:=∀z E,Ctx (X.wsh z) F0 H0 E ->PO (X.wsh z) e (upO X.K F0 H0 t E)
theorem Xh(h:PO X e t)(hi:∀σ H Q,t' σ H Q ->t σ H Q):PO X e t' :=fun pins s σ H Q I q=>h pins s σ H Q I (hi _ _ _ q)
def Ar:uz:=fun Γ P _=>P none Γ
def Av(te:aH):uz:=fun Γ P E=>te Γ (fun d Γ1=>match d with | .int i=>P (some i) Γ1 | _=>False) E
section
variable{X:Cx}{F0 H0:Hp}{a b e:Expr}{es:List Expr}{pos p p2:Pos}{ta tb te:aH}{t:aZ}{x:Str}{lo hi:Option Expr}{tl th:uz}
theorem Jm:QO X F0 H0 none Ar:=fun z E cx=>Xh z1v fun σ H Q hq1=>by obtain⟨F,Γ,P,R,h,k⟩:=hq1;exact k _ _ _ _ R (.refl _) h
theorem Jo(h:QE X F0 H0 e te):QO X F0 H0 (some e) (Av te):=fun z E cx=>Xh (z0q (h z E cx)) fun σ H Q hq2=>by obtain⟨F,Γ,P,R,h,k⟩:=hq2;exact⟨F,Γ,_,R,h,fun d Γ1 F1 H1 v R1 s1 r q=>by
 cases d with
 | int i=>unfold Rep at r;exact⟨i,r,k _ _ _ _ R1 s1 q⟩
 | _=>exact False.elim q⟩
def Aw(te:aH)(tl th:uz):aZ:=fun Γ P E=>te Γ (fun d Γ1=>tl Γ1 (fun l Γ2=>th Γ2 (fun u Γ3=>match d with | .lst xs=>P (cutD xs l u) Γ3 | _=>False) E) E) E
theorem Jp(he:QE X F0 H0 e te)(hl:QO X F0 H0 lo tl)(hh:QO X F0 H0 hi th):QF X F0 H0 (.Subscript e (.Slice lo hi none p2) pos) (Aw te tl th):=fun z E cx=>
 jL (zxp z0s (he z E cx) (hl z E cx) (hh z E cx)) fun σ H Q rN=>by obtain⟨F,Γ,P,R,h,k⟩:=rN;exact⟨F,Γ,_,R,h,fun d Γ1 F1 H1 v R1 s1 r1 h1=>⟨F1,Γ1,_,R1,h1,fun l Γ2 F2 H2 R2 s2 h2=>⟨F2,Γ2,_,R2,h2,fun u Γ3 F3 H3 R3 s3 h3=>by
  cases d with
  | lst xs=>
   have r3:=r1.up (s2.trans s3);unfold Rep at r3;obtain⟨a,vs,rfl,hq,rs⟩:=r3;refine⟨a,vs,rfl,R3.g.seq hq,fun p hp=> ?_⟩;have rc:=zx8 rs l u;obtain⟨R4,e1,e2,e3,ap⟩:=vO R3 hp rc;exact k _ Γ3 F3 _ p _ R4 (s1.trans (s2.trans s3)) e1 e2 e3 rc ap h3
  | _=>exact False.elim h3⟩⟩⟩
def yj(te:aH):aZ:=fun Γ P E=>te Γ (fun d Γ1=>match d with | .lst xs=>P xs.reverse Γ1 | _=>False) E
theorem Xi{K:W.Frag}{F:Hp}:∀{ds:List D} {vs:List V},ak K F ds vs ->ak K F ds.reverse vs.reverse
 | [],_,h=>by unfold ak at h;subst h;unfold ak;rfl
 | d::ds,_,h=>by
  unfold ak at h;obtain⟨v,r,rfl,h1,h2⟩:=h;rw[List.reverse_cons,List.reverse_cons];exact xH (Xi h2) (Dt h1)
theorem z26{k1}{p3 p4:Pos}(he:QE X F0 H0 e te):QF X F0 H0 (.Subscript e (.Slice none none (some (.UnaryOp .USub (.Constant (.int 1) k1 p3) p4)) p2) pos) (yj te):=fun z E cx=>by
 rintro pins s σ H Q I ⟨F,Γ,P,R,h,k⟩;refine Subscript_ (bF (he z E cx pins s σ H (fun v H1=>∃F1 Γ1 d,SR X.K F0 H0 F1 H1 σ Γ1/\Same F F1/\Rep X.K F1 d v/\ (match d with | .lst xs=>P xs.reverse Γ1 | _=>False)) I ⟨F,Γ,_,R,h,fun d Γ1 F1 H1 v R1 s1 r1 h1=>⟨F1,Γ1,d,R1,s1,r1,h1⟩⟩) fun v s1 oY=> ?_)
 obtain⟨x,H1,I1,r1,F1,Γ1,d,R1,sF,rd,q1⟩:=oY;cases d with
 | lst xs=>
  unfold Rep at rd;obtain⟨a,vs,rfl,hq,rs⟩:=rd;cases r1;refine wpAny_Slice ?_;rw[evalPart_none];refine z7 (z7 ?_);rw[evalPart_some];refine bF (Vg (X:=X.wsh z) Vi UW pins s1 σ H1 (fun v H' =>v= .int (-1)/\H' =H1) I1 ⟨1,rfl,rfl,rfl⟩) fun u s2 qX=> ?_;obtain⟨y,H2,I2,r2,hy,hH⟩:=qX;rw[hy] at r2;rw[hH] at I2;obtain⟨t,rfl⟩:=r2;have I4:Inv (X.wsh z) pins σ H1 {s2 with heap:=s2.heap.push {cls:= .type "slice",data:= .fields #[.none,.none,.int (-1) t]}}:=I2.kept (t' :=s2.toks) fun b ob q=>zZ _ q;obtain⟨its,r,ht,hz⟩:=I4.list (R1.g.seq hq);have hlen:=r.length;refine tail_any (T:= "list") (ops:= [.ref a,.ref s2.heap.objs.size]) ht.isList.typeIs slot_list_getitem.lookup ?_ (by with_unfolding_all rfl)
  refine wpAny_getItem_list_slice ht.isList (Heap.IsSliceOf.new ..) .none .none (.int (-1) t) (by simp) ?_ (by rw[List.size_toArray];omega)
  rw[W.krv_pick];have rr:=Xi rs;have hf:=I4.fresh;obtain⟨R4,e1,e2,e3,ap⟩:=vO R1 hf rr;refine⟨.ref _,_,I4.laid (t' :=s2.toks) (o:= .lst vs.reverse) (fun b ob q=>zZ _ q) (zM _) ?_,rfl,k _ Γ1 F1 _ _ _ R4 sF e1 e2 e3 rr ap q1⟩;exact⟨by rw[List.length_reverse];exact hz,_,0,r.reverse,zY _ rfl⟩
 | _=>exact False.elim q1
end
section
variable{X:Cx}
theorem toI{A:Around}(h:A.handled=none):A.in1.handled=none:=h
theorem Xj(I:Inv X pins σ H s)(k:∀b o,s.heap.get? b=some o ->h'.get? b=some o)(r:RelV v u)(q:Q v H):EP X pins σ Q u {s with heap:=h',toks:=tk}:=⟨v,H,I.kept k,r,q⟩
def fW:List D ->Option (List Int)
 | []=>some []
 | .int i::r=>(fW r).map (i:: ·)
 | _::_=>none
def nP:List D ->Option (List Bool)
 | []=>some []
 | .bl i::r=>(nP r).map (i:: ·)
 | _::_=>none
theorem Xk{K:W.Frag}{F:Hp}:∀{ds:List D} {vs:List V} {ns:List Int},ak K F ds vs ->fW ds=some ns ->vs=ns.map .int
 | [],vs,ns,r,h=>by unfold ak at r;cases h;subst r;rfl
 | .int i::ds,vs,ns,r,h=>by
  unfold ak Rep at r;obtain⟨v,us,rfl,rfl,r⟩:=r;unfold fW at h;cases q:fW ds with
  | none=>rw[q] at h;cases h
  | some ms=>
   rw[q] at h;cases h;rw[Xk r q];rfl
 | .non::_,_,_,_,h=>by cases h
 | .bl _::_,_,_,_,h=>by cases h
 | .str _::_,_,_,_,h=>by cases h
 | .tup _::_,_,_,_,h=>by cases h
 | .lst _::_,_,_,_,h=>by cases h
 | .exc _::_,_,_,_,h=>by cases h
 | .ptr _::_,_,_,_,h=>by cases h
 | .obj _ _ _::_,_,_,_,h=>by cases h
 | .dic _ _::_,_,_,_,h=>by cases h
 | .gK _ _::_,_,_,_,h=>by cases h
 | .dik _ _::_,_,_,_,h=>by cases h
theorem Xl{K:W.Frag}{F:Hp}:∀{ds:List D} {vs:List V} {ns:List Bool},ak K F ds vs ->nP ds=some ns ->vs=ns.map .bl
 | [],vs,ns,r,h=>by unfold ak at r;cases h;subst r;rfl
 | .bl i::ds,vs,ns,r,h=>by
  unfold ak Rep at r;obtain⟨v,us,rfl,rfl,r⟩:=r;unfold nP at h;cases q:nP ds with
  | none=>rw[q] at h;cases h
  | some ms=>
   rw[q] at h;cases h;rw[Xl r q];rfl
 | .non::_,_,_,_,h=>by cases h
 | .int _::_,_,_,_,h=>by cases h
 | .str _::_,_,_,_,h=>by cases h
 | .tup _::_,_,_,_,h=>by cases h
 | .lst _::_,_,_,_,h=>by cases h
 | .exc _::_,_,_,_,h=>by cases h
 | .ptr _::_,_,_,_,h=>by cases h
 | .obj _ _ _::_,_,_,_,h=>by cases h
 | .dic _ _::_,_,_,_,h=>by cases h
 | .gK _ _::_,_,_,_,h=>by cases h
 | .dik _ _::_,_,_,_,h=>by cases h
theorem zsn(ns:List Int)(f:Nat ->Int)(h:∀i,i<ns.length ->f i=ns.getD i 0):PySem.preSum f ns.length=ns.sum:=by
 have key:∀k,k<=ns.length ->PySem.preSum f k=(ns.take k).sum:=by
  intro k;induction k with
  | zero=>intro _;rfl
  | succ k ih=>
   intro hk;show PySem.preSum f k+f k=_;rw[ih (by omega),h k (by omega),List.take_add_one,List.sum_append,List.getD_eq_getElem?_getD,List.getElem?_eq_getElem (by omega)]
   simp
 rw[key _ (Nat.le_refl _),List.take_length]
def z59:List D ->(D ->Prop) ->Prop:=fun ds P=>match ds with | [.lst xs]=>∃ns,fW xs=some ns/\P (.int ns.sum) | _=>False
theorem zxu(pl:PlainL h p its):(h.push {cls:= .type "list_iterator",data:= .fields #[.ref p,rawInt 0]}).IsListIter h.objs.size p 0/\ (h.push {cls:= .type "list_iterator",data:= .fields #[.ref p,rawInt 0]}).IsList p its:=by
 refine⟨⟨_,zY _ rfl,rfl,rfl⟩,?_⟩;obtain⟨o,n,e,hcl,_,hd⟩:=pl;exact⟨o,zZ _ e,hcl,n,hd⟩
theorem ztf(bs:List Bool):(List.range bs.length).any (fun i=>bs.getD i false)=bs.any id:=by
 rw[Bool.eq_iff_iff];simp only [List.any_eq_true,List.mem_range,id];constructor
 ·rintro⟨i,hi,e⟩;rw[List.getD_eq_getElem?_getD,List.getElem?_eq_getElem hi] at e;exact⟨_,yX hi,e⟩
 ·rintro⟨b,hb,e⟩;obtain⟨i,hi,rfl⟩:=List.mem_iff_getElem.mp hb;exact⟨i,hi,by rw[List.getD_eq_getElem?_getD,List.getElem?_eq_getElem hi];exact e⟩
def Py:List D ->(D ->Prop) ->Prop:=fun ds P=>match ds with | [.lst xs]=>∃bs,nP xs=some bs/\P (.bl (bs.any id)) | _=>False
def z57:List D ->(D ->Prop) ->Prop:=fun ds P=>match ds with | [.lst xs]=>∃bs,nP xs=some bs/\P (.bl (bs.all id)) | _=>False
theorem z3y{bs:List Bool}{its:List Value}(rv:Vals (bs.map .bl) its){i:Nat}{v:Value}(hv:its.toArray[i]?=some v):v= .bool (bs.getD i false):=by
 have hl:=rv.length;rw[List.length_map] at hl;have hv' :its[i]?=some v:=by simpa using hv
 have hi:i<bs.length:=by
  have:=(zU.mp hv').1;omega
 obtain⟨u,hu,ru⟩:=rv.get (i:=i) (x:= .bl (bs.getD i false)) (by rw[List.getElem?_map,List.getD_eq_getElem?_getD,List.getElem?_eq_getElem hi];rfl)
 rw[hv'] at hu;cases hu;exact ru
theorem z5z(hc:X.calm=true):cG X (.builtin "any") (nJ X.K Py):=by
 rintro pins s σ H xs us Q I r ⟨F,ds,P,sF,rs,h,k⟩;unfold Py at h;split at h
 ·unfold ak ak Rep at rs;obtain⟨v,_,rfl,⟨p,vs,rfl,hq,rs⟩,rfl⟩:=rs;obtain⟨bs,hbs,h⟩:=h;obtain rfl:=Xl rs hbs;obtain⟨u,rfl,rx⟩:=vals1 r;cases rx;obtain⟨its,rv,pl,hz⟩:=I.list (sF.seq hq);have hl:=rv.length;rw[List.length_map] at hl;refine call_any_walk (wpAny_pyIter_list pl.isList ?_);have plt:p<s.heap.objs.size:=by obtain⟨o,n,e,_⟩:=pl;exact zG e
  refine⟨s.heap.objs.size,_,_,_,_,_,fun i=>bs.getD i false,rfl,Walks.list (toI (I.ok.hd hc)) s.heap.objs.size p (zJ plt) its.toArray,zxu pl,fun i v s' Q' E' hv hQ=> ?_,fun h' tk kp=> ?_⟩
  ·rw[z3y rv hv];exact wpAny_truthy_bool hQ
  ·rw[show its.toArray.size=bs.length by simp [hl],ztf]
   refine Xj (s:=s) (v:= .bl (bs.any id)) I (fun b o e=>kp b o (fun z=> ?_) (zZ _ e)) rfl (k _ _ F H (Gr.refl sF) (by unfold Rep;rfl) h)
   rcases zT.mp z with rfl | z
   ·exact absurd (zG e) (yV _)
   ·cases z
 ·exact h.elim
def z54:List D ->(D ->Prop) ->Prop:=fun ds P=>match ds with | [.lst xs]=>∃ns m,fW xs=some ns/\m∈ns/\ (∀i∈ns,i<=m)/\P (.int m) | _=>False
def z52:List D ->(D ->Prop) ->Prop:=fun ds P=>match ds with | [.lst xs]=>∃ns m,fW xs=some ns/\m∈ns/\ (∀i∈ns,m<=i)/\P (.int m) | _=>False
end
def Er:Slot ->Slot | .ow ds=> .pu (.lst ds) | .tr _ t=> .pu (toD t) | s=>s
def jm(Γ:G2):G2:=Γ.map Er
def mQ(Γ:G2)(σ:St)(b:Addr):Prop:=∃j,iQ Γ σ j b
open Classical in
theorem zxn{K:W.Frag}{F0 H0 F H:Hp}{σ:St}{Γ:G2}(R:SR K F0 H0 F H σ Γ):∃F1,Same F F1/\SR K F1 H F1 H σ (jm Γ)/\ (∀b,F b=none ->¬mQ Γ σ b ->F1 b=none)/\∀b,mQ Γ σ b ->F b=none/\∃u,F1 b=some u/\LD u:=by
 let F1:Hp:=fun b=>if (F b).isSome then F b else if mQ Γ σ b then H b else none
 have s1:Same F F1:=fun b u e=>by show(if _ then _ else _)=_;rw[if_pos (by rw[e];rfl)];exact e
 have s2:Same F1 H:=fun b u e=>by
  have e' :(if (F b).isSome then F b else if mQ Γ σ b then H b else none)=some u:=e;split at e'
  ·exact R.g b u e'
  ·split at e'
   ·exact e'
   ·cases e'
 have at1:∀b u,F b=none ->mQ Γ σ b ->H b=some u ->F1 b=some u:=fun b u h1 h2 h3=>by
  show(if (F b).isSome then F b else if mQ Γ σ b then H b else none)=_;rw[if_neg (by rw[h1];exact Bool.false_ne_true),if_pos h2]
  exact h3
 have yh:∀(i:Nat) s o a,(jm Γ)[i]?=some s ->¬d9 s o a:=fun i s o a e=>by
  unfold jm at e;rw[List.getElem?_map] at e;cases q:Γ[i]? with
  | none=>rw[q] at e;cases e
  | some t=>
   rw[q] at e;cases t<;>(cases e;exact fun h=>h)
 have own:∀b,mQ Γ σ b ->F b=none/\∃u,F1 b=some u/\LD u:=fun b hb=>by
  obtain⟨j,s,o,e1,e2,hs⟩:=id hb;obtain⟨o',e3,r⟩:=R.sl j _ e1;rw[e2] at e3;cases e3;obtain⟨h1,_,u,h2,ld⟩:=uo r hs;exact⟨h1,u,at1 _ _ h1 hb h2,ld⟩
 refine⟨F1,s1,⟨Gr.refl s2,by rw[jm,List.length_map];exact R.len,fun i s e=> ?_,fun i j a ⟨s,o,e,_,h⟩=>absurd h (yh i s o a e)⟩,fun b hb hn=> ?_,own⟩
 ·unfold jm at e;rw[List.getElem?_map] at e;cases q:Γ[i]? with
  | none=>rw[q] at e;cases e
  | some sl=>
   rw[q] at e;obtain⟨o,e1,r⟩:=R.sl i sl q;refine⟨o,e1,?_⟩;have mine:∀b u,d9 sl o b ->H b=some u ->F1 b=some u:=fun b u hb hu=>at1 b u (uo r hb).1 ⟨i,sl,o,q,e1,hb⟩ hu;cases sl with
   | no=>cases e;trivial
   | pu d=>cases e;obtain⟨v,rfl,rv⟩:=r;exact⟨v,rfl,rv.up s1⟩
   | ow ds=>
    cases e;obtain⟨a,vs,rfl,h1,h2,h3,rs⟩:=r;refine⟨.ref a,rfl,?_⟩;unfold Rep;exact⟨a,vs,rfl,.inl (.inl (mine a _ rfl h1)),rs.up s1⟩
   | tr as t=>
    cases e;obtain⟨v,rfl,nd,h1,rv⟩:=r;exact⟨v,rfl,TR.rep s1 t v as (fun a ha u hu=>mine a u ha hu) rv⟩
 ·show(if (F b).isSome then F b else if mQ Γ σ b then H b else none)=none;rw[if_neg (by rw[hb];exact Bool.false_ne_true),if_neg hn]
theorem z13{K:W.Frag}{F0 H0 F H:Hp}{σ:St}{Γ:G2}(R:SR K F0 H0 F H σ Γ):∃F1,Same F F1/\SR K F1 H F1 H σ (jm Γ):=by
 obtain⟨F1,s1,R1,_⟩:=zxn R;exact⟨F1,s1,R1⟩
theorem ztq{K:W.Frag}{F0 H0 F H H' :Hp}{σ:St}{Γ:G2}(R:SR K F0 H0 F H σ Γ)(s:Same H H'):SR K F0 H0 F H' σ Γ:=by
 refine R.grow ⟨.refl _,fun b u e=>s b u (R.g b u e),s,fun b o e n=>by rw[e] at n;cases n⟩
def Xm:D ->Prop | .non=>True | .bl _=>True | .int _=>True | .str _=>True | _=>False
theorem z2x{K:W.Frag}{F F' :Hp}{d:D}{v:V}(h:Xm d)(r:Rep K F d v):Rep K F' d v:=by
 cases d with
 | non=>unfold Rep at r⊢;exact r
 | bl=>unfold Rep at r⊢;exact r
 | int=>unfold Rep at r⊢;exact r
 | str=>unfold Rep at r⊢;exact r
 | _=>exact h.elim
def sy(te:aH):aH:=fun Γ P _=>te (jm Γ) (fun d _=>Xm d/\P d Γ) jY
def yp(t:TT2):TT2:=fun Γ P _=>t (jm Γ) (fun b _=>P b Γ) jY
section
variable{X:Cx}{F0 H0:Hp}{e:Expr}{te:aH}{tt:TT2}
theorem zyi{E:XW}{F1 H1:Hp}(cx:Ctx X F0 H0 E):Ctx X F1 H1 jY:=
 ⟨fun _ _ _ _ _ _ _ _ _ _ h=>by obtain⟨_,_,_,_,_,_,_,_,_,_,_,_,_,_,_,_,h,_⟩:=h;exact h.elim,cx.po⟩
theorem zz2(h:∀F0 H0,QE X F0 H0 e te):QE X F0 H0 e (sy te):=fun z E cx=>by
 rintro pins s σ H Q I ⟨F,Γ,P,R,q,k⟩;obtain⟨F1,s1,R1⟩:=z13 R;exact h F1 H z jY (zyi cx) pins s σ H Q I ⟨F1,jm Γ,_,R1,q,fun d Γ' F' H' v R' s' r hp=>k d Γ F H' v (ztq R R'.gr.h) (.refl _) (z2x hp.1 r) hp.2⟩
def Pz(i:Nat)(te:aH):aH:=fun Γ P E=>(∃xs,Γ[i]?=some (.ow xs))/\te Γ (fun k Γ1=>match k,Γ1[i]? with | .int k,some (.ow ds)=>∃d,jC ds k=some d/\P d Γ1 | _,_=>False) E
end
def PB(X:Cx)(id:String)(g:List D ->List D ->(List D ->Prop) ->Prop):Prop:=
 ∀(pins:bw) (s:Shared) (σ:St) (F H:Hp) (l:Addr) (vs args:List V) (xs ds:List D) (us:List Value) (P:List D ->Prop) (Q:VK),Inv X pins σ H s ->H l=some (.lst vs) ->Same F H ->ak X.K F xs vs ->ak X.K F ds args ->Vals args us ->g xs ds P ->
  (∀ys ws,ak X.K F ys ws ->P ys ->Q .non (upd H l (.lst ws))) ->wpAny (model X.prog X.w) X.A (call (.builtin id) (.ref l::us)) (EP X pins σ Q) X.xe s
def Ax:List D ->List D ->(List D ->Prop) ->Prop:=fun xs ds P=>match ds with | [d]=>xs.length<sizeLine/\P (xs++ [d]) | _=>False
def PJ(xs:List D)(k:Nat)(d:D):List D:=xs.take k++d::xs.drop k
def zw5:List D ->List D ->(List D ->Prop) ->Prop:=fun xs ds P=>match ds with | [.int k,d]=>0<=k/\k<=xs.length/\xs.length<sizeLine/\P (PJ xs k.toNat d) | _=>False
def PL:List D ->List D ->(List D ->Prop) ->Prop:=fun xs ds P=>match ds with | [.lst ys]=>xs.length+ys.length<=sizeLine/\P (xs++ys) | _=>False
def z3f:List D ->List D ->(List D ->Prop) ->Prop:=fun xs ds P=>match ds with | []=>P xs.reverse | _=>False
def z5c:List D ->List D ->(List D ->Prop) ->Prop:=fun xs ds P=>match ds with | []=>P [] | _=>False
section
variable{X:Cx}
theorem PN:PB X "list.append" Ax:=by
 intro pins s σ F H l vs args xs ds us P Q I hl sF rs ra rv h k;unfold Ax at h;split at h
 ·unfold ak ak at ra;obtain⟨v,_,rfl,rd,rfl⟩:=ra;exact VJ pins s σ H (.ref l) [v] (.ref l) us Q I rfl rv ⟨l,vs,v,rfl,rfl,hl,by rw[<- gM rs];exact h.1,k _ _ (xH rs (Dt rd)) h.2⟩
 ·exact h.elim
end
section
variable{X:Cx}{F0 H0:Hp}{x name:Str}{apos cpos npos pos:Pos}{e:Expr}{es:List Expr}{id:String}{i:Nat}{t:aZ}{g:List D ->List D ->(List D ->Prop) ->Prop}
def Ay(i:Nat)(g:List D ->List D ->(List D ->Prop) ->Prop)(t:aZ):au:=fun D Γ E=>(∃xs,Γ[i]?=some (.ow xs))/\t Γ (fun ds Γ1=>match Γ1[i]? with | some (.ow xs)=>g xs ds fun ys=>D.nx (Γ1.set i (.ow ys)) | _=>False) E
theorem zw0{z:Wi}{σ:St}{F Fa H Ha:Hp}{Γ Γ1:G2}{xs:List D}{a:Addr}{D2:jV}{Dn:Ends}{vs args:List V}{ds:List D}(_R:SR X.K F0 H0 F H σ Γ)(R1:SR X.K F0 H0 Fa Ha σ Γ1)(s1:Same F Fa)(k:qm X.K F0 H0 F D2 Dn)(e1:σ[i]?=some (some (.ref a)))
  (q:match Γ1[i]? with | some (.ow xs)=>g xs ds fun ys=>D2.nx (Γ1.set i (.ow ys)) | _=>False):
  ∃vs xs P,Ha a=some (.lst vs)/\ak X.K Fa xs vs/\g xs ds P/\∀ys ws,ak X.K Fa ys ws ->P ys ->Dn.nx σ (upd Ha a (.lst ws)):=by
 split at q
 ·rename_i xs e;obtain⟨o,e2,a',vs,rfl,g1,g2,g3,r⟩:=R1.sl i _ e;rw[e1] at e2;cases e2;exact⟨vs,xs,_,g1,r,q,fun ys ws lW hp=>k.nx _ _ _ _ (R1.wr e e1 lW) s1 hp⟩
 ·exact q.elim
theorem Jq(hr:∀z,PB (X.wsh z) id g)(slot:PySem.Slot "list" name id)(hty:typeOf (.builtin id)=pure (.type "method_descriptor"))(hN:X.N[i]?=some x)(hv:oO X.env.scope x)(ha:QA X F0 H0 (e::es) t)
  (hd:(x==("__debug__" :Str))=false:=by decide) (hcd:(x==("__classdict__" :Str))=false:=by decide)
  (hbase:attributeBase (.Name x npos) name X.env (eval (.Name x npos) X.env)=eval (.Name x npos) X.env:=by rfl)
  (hfew:((backTo cpos (starEach (e::es) X.env)).all (fun x=> !x.1)&&(backToKw cpos (keywordEach [] X.env)).all (fun x=>x.1.isSome)
   &&decide ((e::es).length+ ([]:List Keyword).length+ (if ([]:List Keyword).isEmpty then 0 else 1)<30))=true:=by rfl)
  (hline:(apos.endLine==cpos.line)=true:=by rfl) (hs:starEach (e::es) X.env=(false,eval e X.env)::starEach es X.env:=by rfl) (hplain:(backTo cpos (starEach es X.env)).any (·.1)=false:=by rfl)
  (hsw:swapsWith (.Call (.Attribute (.Name x npos) name apos) (e::es) [] cpos) none pos.line X.env=pure false:=by rfl):
  QS X F0 H0 (.Expr (.Call (.Attribute (.Name x npos) name apos) (e::es) [] cpos) pos) (Ay i g t):=by
 intro z E cx;refine mK (z2e (X:=X.wsh z) (te:=fun σ H Q=>Cm i σ H fun v H1=>Ip X.K "list" v H1/\DN X.K F0 H0 t E σ H1 fun vs H2=>∃l xs ws F Pd ds,v= .ref l/\H2 l=some (.lst ws)/\Same F H2/\ak X.K F xs ws/\ak X.K F ds vs/\g xs ds Pd/\∀ys us,ak X.K F ys us ->Pd ys ->Q .non (upd H2 l (.lst us))) ?_ hsw) ?_
 ·refine z47 (X:=X.wsh z) (T:= "list") (id:=id) (r:=fun v vs H2 Q=>∃l xs ws F Pd ds,v= .ref l/\H2 l=some (.lst ws)/\Same F H2/\ak X.K F xs ws/\ak X.K F ds vs/\g xs ds Pd/\∀ys us,ak X.K F ys us ->Pd ys ->Q .non (upd H2 l (.lst us)))
   PySem.F.plainAttrs_list slot hty ?_ (rD (X:=X.wsh z) (i:=i) hN hv hd hcd) (ha z E cx) hbase hfew hline hs hplain
  rintro pins s σ H x xs v us Q I rx rs ⟨l,ys,ws,Fz,Pd,ds,e1,h1,h2,h3,h4,h5,h6⟩;subst e1;cases rx;exact hr z pins s σ Fz H l ws xs ys ds us Pd Q I h1 h2 h3 h4 rs h5 h6
 ·rintro Dn σ H ⟨F,Γ,D2,R,⟨⟨xs,e0⟩,h⟩,k⟩;obtain⟨o,e1,a,vs,rfl,h1,h2,h3,r⟩:=R.sl i _ e0;refine⟨.ref a,e1,.inl ⟨rfl,vs,.inl (.inl h1)⟩,F,Γ,_,R,h,fun ds Γ1 F1 H1 us R1 s1 r1 q1=> ?_⟩;obtain⟨ws,ys,P,g1,g2,g3,g4⟩:=zw0 (z:=z) (vs:=vs) (args:=us) (xs:=xs) R R1 s1 k e1 q1;exact⟨a,ys,ws,F1,P,ds,rfl,g1,R1.g,g2,r1,g3,g4⟩
end
end L3
namespace L3
open PySem PySem.Spec PyProof.Rows L2
section
variable{X:Cx}{F0 H0:Hp}{st:Stmt}{i:Nat}{t:aZ}
theorem Es(h:QS X F0 H0 st (iR i t)):QS X F0 H0 st (aO i (dg t)):=fun z E cx=>
 mK (h z E cx) fun Dn σ H hq1=>by
  obtain⟨F,Γ,D2,R,q,k⟩:=hq1;have key:(fun(ds:List D) (Γ1:G2)=>(match (Γ1.set i (.ow ds))[i]? with | some (.ow ds')=>D2.nx ((Γ1.set i (.ow ds)).set i (.pu (.lst ds'))) | _=>D2.nx (Γ1.set i (.ow ds))))=fun ds Γ1=>D2.nx (Γ1.set i (.pu (.lst ds))):=by
   funext ds Γ1
   by_cases hi:i<Γ1.length
   ·rw[List.getElem?_set_self hi];dsimp only;rw[List.set_set]
   ·rw[List.getElem?_eq_none (by simpa using hi)]
    dsimp only;rw[List.set_eq_of_length_le (by omega),List.set_eq_of_length_le (by omega)]
  refine⟨F,Γ,{D2 with nx:=fun Γ' =>match Γ'[i]? with | some (.ow ds)=>D2.nx (Γ'.set i (.pu (.lst ds))) | _=>D2.nx Γ'},R,?_,⟨fun Γ' F' H' σ' R' s' q' => ?_,k.bk,k.ct,k.rt,k.rf,k.rT,k.rm⟩⟩
  ·show t Γ _ E;dsimp only;rw[key];exact q
  ·dsimp only at q';split at q'
   ·rename_i ds e;obtain⟨a,F2,_,s2,R2,_⟩:=R'.frz e;exact k.nx _ _ _ _ R2 (s'.trans s2) q'
   ·exact k.nx _ _ _ _ R' s' q'
end
def lO(t u:aH):aZ:=fun Γ P E=>t Γ (fun d Γ1=>u Γ1 (fun d' Γ2=>match d,d' with | .lst xs,.lst ys=>xs.length+ys.length<=sizeLine/\P (xs++ys) Γ2 | _,_=>False) E) E
section
variable{X:Cx}{F0 H0:Hp}{a b c:Expr}{pos:Pos}{ta tb tc:aH}
theorem zr6{M:Program}{w:World}{A:Around}{E:bG}{s:Shared}{l b:Addr}{vs ws:List Value}{Q:bG}(hl:s.heap.IsList l vs.toArray)(hb:s.heap.IsList b ws.toArray)
  (h:Q (.ref s.heap.objs.size) {s with heap:=s.heap.push {cls:= .type "list",data:= .seq (vs++ws).toArray}}) (hsz:vs.length+ws.length<=sizeLine):wpAny (model M w) A (binaryOp .Add (.ref l) (.ref b)) Q E s:=by
 obtain⟨⟨cls,dd,data,sl⟩,ho,hc,n,hd⟩:=id hl;obtain⟨⟨cls2,dd2,data2,sl2⟩,ho2,hc2,n2,hd2⟩:=id hb;simp only at hc hd hc2 hd2;subst hc hd hc2 hd2;have e:vs.toArray++ws.toArray=(vs++ws).toArray:=by simp
 refine concat_meets ⟨_,ho,rfl⟩ ⟨_,ho2,rfl⟩ noFill_list_add seq_list_add PySem.F.slot_list_add PySem.F.entry_list_add (PySem.F.args_list_add_2 _ _) (list_addW l b vs.toArray ws.toArray n n2 dd dd2 sl sl2 (by simpa using hsz)) ⟨ho,ho2,?_⟩
 rw[e];exact h
theorem vW(ha:QE X F0 H0 a ta)(hb:QE X F0 H0 b tb):QF X F0 H0 (.BinOp a .Add b pos) (lO ta tb):=fun z E cx=>
 jL (Vf (X:=X.wsh z) (r:=fun x y H Q=>∃p q xs ys,x= .ref p/\y= .ref q/\fO X.K H p xs/\fO X.K H q ys/\xs.length+ys.length<=sizeLine/\∀l,H l=none ->Q (.ref l) (upd H l (.lst (xs++ys)))) (by
  rintro pins s σ H x y v u Q I rx ry ⟨p,q,xs,ys,e1,e2,h1,h2,hz,k⟩;subst e1 e2;cases rx;cases ry;obtain⟨its,r,pl,_⟩:=I.list h1;obtain⟨its2,r2,pl2,_⟩:=I.list h2;have l1:=r.length;have l2:=r2.length;refine zr6 pl.isList pl2.isList ?_ (by omega)
  exact⟨.ref _,_,I.lnew (t' :=s.toks) (r.append r2) (by rw[List.length_append];omega),rfl,k _ I.fresh⟩) (ha z E cx) (hb z E cx)) fun σ H Q hq2=>by obtain⟨F,Γ,P,R,h,k⟩:=hq2;exact⟨F,Γ,_,R,h,fun d1 Γ1 F1 H1 v1 R1 s1 r1 h1=>⟨F1,Γ1,_,R1,h1,fun d2 Γ2 F2 H2 v2 R2 s2 r2 h2=>by
   cases d1 with
   | lst xs=>
    cases d2 with
    | lst ys=>
     have r1' :=r1.up s2;unfold Rep at r1' r2;obtain⟨p,vs,rfl,hq,rs⟩:=r1';obtain⟨q,ws,rfl,hq2,Az⟩:=r2;refine⟨p,q,vs,ws,rfl,rfl,R2.g.seq hq,R2.g.seq hq2,by rw[<- gM rs,<- gM Az];exact h2.1,fun l hl=> ?_⟩
     have ra:=xH rs Az;obtain⟨R3,e1,e2,e3,ap⟩:=vO R2 hl ra;exact k _ Γ2 F2 _ l _ R3 (s1.trans s2) e1 e2 e3 ra ap h2.2
    | _=>exact False.elim h2
   | _=>exact False.elim h2⟩⟩
def sE:D ->Bool | .non=>true | .bl _=>true | .int _=>true | .str _=>true | _=>false
def Jr:D ->D ->Bool
 | .non,.non=>true
 | .bl a,.bl b=>a==b
 | .bl a,.int b=>(if a then 1 else 0)==b
 | .int a,.bl b=>a==(if b then 1 else 0)
 | .int a,.int b=>a==b
 | .str a,.str b=>a==b
 | _,_=>false
def inD(x:D)(xs:List D):Bool:=xs.any fun y=>Jr y x
def rC(neg:Bool):D ->D ->(D ->Prop) ->Prop:=fun x y P=>match y with
 | .lst xs=>sE x=true/\xs.all sE=true/\P (.bl (if neg then !inD x xs else inD x xs))
 | .tup xs=>sE x=true/\xs.all sE=true/\P (.bl (if neg then !inD x xs else inD x xs))
 | _=>False
theorem yq{K:W.Frag}{F:Hp}{d:D}{v:V}(h:sE d=true)(r:Rep K F d v):gZ v=true:=by
 cases d<;>first | (unfold Rep at r;subst r;rfl) | (exact absurd h zH)
theorem PX{K:W.Frag}{F:Hp}{d e:D}{v u:V}(h:sE d=true)(h' :sE e=true)(r:Rep K F d v)(r' :Rep K F e u):uU v u=Jr d e:=by
 cases d<;>first | (exact absurd h zH) | (unfold Rep at r;subst r;cases e<;>first | (exact absurd h' zH) | (unfold Rep at r';subst r';rfl))
theorem Qa{K:W.Frag}{F:Hp}:∀{ds:List D} {vs:List V},ak K F ds vs ->ds.all sE=true ->vs.all gZ=true
 | [],vs,r,_=>by unfold ak at r;subst r;rfl
 | d::ds,vs,r,h=>by
  unfold ak at r;obtain⟨v,us,rfl,r1,r2⟩:=r;rw[List.all_cons,Bool.and_eq_true] at h⊢;exact⟨yq h.1 r1,Qa r2 h.2⟩
theorem yr{K:W.Frag}{F:Hp}{x:D}{u:V}(hx:sE x=true)(rx:Rep K F x u):∀{ds:List D} {vs:List V},ak K F ds vs ->ds.all sE=true ->inV u vs=inD x ds
 | [],vs,r,_=>by unfold ak at r;subst r;rfl
 | d::ds,vs,r,h=>by
  unfold ak at r;obtain⟨v,us,rfl,r1,r2⟩:=r;rw[List.all_cons,Bool.and_eq_true] at h;unfold inV inD;rw[List.any_cons,List.any_cons,PX h.1 hx r1 rx];have:=yr hx rx r2 h.2;unfold inV inD at this;rw[this]
theorem qw:gJ X (compareOp .In) (lX X.K (rC false)):=by
 rintro pins s σ H x y v u Q I rx ry ⟨F,d1,d2,P,sF,r1,r2,h,k⟩;unfold rC at h;split at h
 ·unfold Rep at r2;obtain⟨p,vs,rfl,hq,rs⟩:=r2;obtain⟨h1,h2,h3⟩:=h;exact VF pins s σ H x _ v u Q I rx ry ⟨p,vs,rfl,.inl (sF.seq hq),yq h1 r1,Qa rs h2,k _ _ F H (Gr.refl sF) (by rw[yr h1 r1 rs h2];unfold Rep;rfl) h3⟩
 ·unfold Rep at r2;obtain⟨p,vs,rfl,hq,rs⟩:=r2;obtain⟨h1,h2,h3⟩:=h;exact VF pins s σ H x _ v u Q I rx ry ⟨p,vs,rfl,.inr (lH sF hq),yq h1 r1,Qa rs h2,k _ _ F H (Gr.refl sF) (by rw[yr h1 r1 rs h2];unfold Rep;rfl) h3⟩
 ·exact h.elim
def yt(g g' :D ->D ->(D ->Prop) ->Prop)(ta tb tc:aH):aH:=fun Γ P E=>ta Γ (fun x Γ1=>tb Γ1 (fun y Γ2=>g x y fun r=>match r with
 | .bl k=>if k=true then tc Γ2 (fun w Γ3=>g' y w fun d=>P d Γ3) E else P (.bl false) Γ2
 | _=>False) E) E
end
section
variable{X:Cx}{F0 H0:Hp}{tg a b:Expr}{t:aZ}{p pc:Pos}
def aaL(t:aZ):aZ:=fun Γ P E=>t Γ (fun ds Γ1=>match ds with | [.int j]=>(-(2^62)<=j/\j<2^62)/\j.toNat<=sizeLine/\P ((List.range j.toNat).map fun(k:Nat)=> .int (0+k)) Γ1 | _=>False) E
def aaM(t:aZ):aZ:=fun Γ P E=>t Γ (fun ds Γ1=>match ds with | [.int i,.int j]=>(-(2^62)<=i/\i<2^62/\ -(2^62)<=j/\j<2^62)/\ (j - i).toNat<=sizeLine/\P ((List.range (j - i).toNat).map fun(k:Nat)=> .int (i+k)) Γ1 | _=>False) E
end
def zyg(sc En:Scope):Scope:={sc with names:=sc.names.map fun(n,k)=>if (k== .free&&En.kind== .function&&En.names.lookup n==some .cell) then(n,.cell) else(n,k)}
section
variable{X:Cx}{F0 H0:Hp}{x:Str}{pos:Pos}{d:D}
def Glb(K:W.Frag)(mg:Str ->Option Value)(x:Str)(d:D):Prop:=∃v u,mg x=some u/\RelV v u/\∀F,Rep K F d v
end
structure aaN (K:W.Frag) (x qual:Str) (st:Stmt) (f:Addr) (fd:FuncData) (dV:Value):Prop where
 ex:∃(oc:Value) (od:Option Addr) (kV doc pm:Value) (an:Option Addr) (cdv ct:Value) (osl:Array (Option Value)),
  fd=W.fnOf x qual (uX st) (rG st) (bM st) dV kV doc pm an cdv ct/\K.lookup f=some ⟨oc,od,.func fd,osl⟩/\W.codeIn K cdv qual=true
 kp:W.keepIn K (.ref f)=true
section
variable{P:Program}{w:World}{K:W.Frag}{mg:Str ->Option Value}{base:Heap}
structure aaO (P:Program) (w:World) (K:W.Frag) (mg:Str ->Option Value) (base:Heap) (x:Str) (k:Nat) (ps:List Str) (sp:cj):Prop where
 ex:∃f fd,d7 P w K mg base (gO P w) k f fd ps (jO K sp)/\mg x=some (.ref f)/\W.keepIn K (.ref f)=true/\Binds K fd ps []/\Binds K fd ps [.none]
end
def yu(sp:cj)(t:aZ):aH:=fun Γ P E=>t Γ (fun ds Γ1=>sp (ds++ [.non]) (fun d=>P d Γ1) fun C=>E Γ1 C) E
section
variable{X:Cx}{F0 H0:Hp}{e:Expr}{es:List Expr}{pos p:Pos}{x:Str}{ps:List Str}{k:Nat}{sp:cj}{t:aZ}
end
def VE(K:W.Frag)(C:Addr):Prop:=W.kitOne K (.ref C) (.type "ValueError")=some true
def Qc(K:W.Frag)(ta:aH):aH:=fun Γ P E=>ta Γ (fun d Γ1=>match d with | .exc C0=>(rM K C0/\u6 K C0/\VE K C0)/\P (.bl true) Γ1 | _=>False) E
def Qd(K:W.Frag)(Cs:List Addr)(ta:aH):aH:=fun Γ P E=>ta Γ (fun d Γ1=>match d with | .exc C0=>(rM K C0/\u6 K C0)/\P (.bl (Cs.any fun C=>mL K C0 C)) Γ1 | _=>False) E
def PCl(X:Cx)(es:List Expr)(Cs:List Addr):Prop:=∀z,PA (X.wsh z) es fun _ H Q=>Q (Cs.map V.ref) H
section
variable{X:Cx}{F0 H0:Hp}{a:Expr}{pos p pt:Pos}{ta:aH}{x:Str}{C:Addr}{es:List Expr}{Cs:List Addr}
end
theorem Qe{X:Cx}{pins:bw}{σ:St}{H:Hp}{s:Shared}{h' :Heap}{t' :Nat}{fp:List Addr}(I:Inv X pins σ H s)(k:∀b o,b∉fp ->s.heap.get? b=some o ->h'.get? b=some o)(hf:∀b∈fp,gj X pins H b):Inv X pins σ H {s with heap:=h',toks:=t'}:=by
 have Ck:∀b u,H b=some u ->b∉fp:=fun b u e z=>by rw[(hf b z).1] at e;cases e
 refine I.step (g' :=s.gens) (d' :=s.drawn) (ch:=fp) (fun b hb=> ?_) (fun b o _ _ hc e _=>k b o hc e) (fun b o _ _ hc e _=>⟨o.slots,k b o hc e⟩) (fun _ _ _ _ n=>n) (fun b o hc e=>⟨o,k b o hc e⟩) (fun _ _ e=>e) (fun _ _ _ e=>e) (fun b ps e=>⟨#[],by rw[e];simp⟩) (fun m hm=> ?_) (fun b u e=> ?_) I.bare
 ·obtain⟨f0,f1,f2,f3,f4,f5⟩:=hf b hb;exact⟨f3,f1,f4,f5⟩
 ·obtain⟨o,es,ep,ho,r⟩:=hm;exact⟨o,es,ep,k _ o (fun z=>(hf _ z).2.1 rfl) ho,r⟩
 ·refine(I.hok b u e).stay (fun c v hc q=>k c v ?_ q) (fun _ q=>q) fun _ _ q=>q;rcases hc with z | z
  ·rw[z];exact Ck b u e
  ·exact Ck c _ z
theorem Qf(h:gj X pins H b)(hb:b≠a):gj X pins (upd H a o) b:=⟨by rw[c7 hb];exact h.1,h.2⟩
theorem Xn{X:Cx}{pins:bw}{σ:St}{H:Hp}{s:Shared}{h' :Heap}{t' :Nat}{fp:List Addr}{xs:List V}{its:List Value}(I:Inv X pins σ H s)(k:∀b o,b∉fp ->s.heap.get? b=some o ->h'.get? b=some o)
  (hlt:∀b∈fp,b<s.heap.objs.size) (ht:h'.get? s.heap.objs.size=some {cls:= .type "tuple",data:= .seq its.toArray}) (hv:Vals xs its) (hz:xs.length<=sizeLine) (hf:∀b∈fp,gj X pins H b):
  Inv X pins σ (upd H s.heap.objs.size (.tup xs)) {s with heap:=h',toks:=t'}:=by
 have I1:Inv X pins σ (upd H s.heap.objs.size (.tup xs)) {s with heap:=s.heap.push {cls:= .type "tuple",data:= .seq its.toArray},toks:=s.toks}:=
  I.laid (t' :=s.toks) (fun b o e=>zZ _ e) (zM _) (show bB X.prog X.w _ _ _ (.tup xs) from ⟨hz,its,hv,IsTup.new _ _⟩)
 refine Qe (s:={s with heap:=s.heap.push {cls:= .type "tuple",data:= .seq its.toArray},toks:=s.toks}) (fp:=fp) I1 (fun b o hb e=> ?_) fun b hb=>Qf (hf b hb) (zJ (hlt b hb));rcases Heap.get?_push_cases e with ⟨rfl,rfl⟩ | e
 ·exact ht
 ·exact k b o hb e
def Ite(K:W.Frag)(a:Addr):It:=
 ⟨fun i H=>∃xs x,fO K H a xs/\xs[i]?=some x,fun i H x H' =>∃b v,x= .ref b/\H b=none/\H' =upd H b (.tup [.int i,v])/\∀xs,fO K H a xs ->xs[i]?=some v,fun i H=>∃xs,fO K H a xs/\xs.length<=i⟩
theorem zvj{P:Program}{w:World}{K:W.Frag}{elts:List Expr}{x1}{pos:Pos}(a e it:Addr)(hne:e≠it):Turn P w K (.Tuple elts x1 pos) (Ite K a) [e,it] e (fun i h=>(∃old,IsEnum h e it (i:Int) old)/\h.IsListIter it a i) where
 mem:=by simp
 obj:=fun i h q b hb=>by
  obtain⟨⟨old,q⟩,st⟩:=q;rcases zT.mp hb with rfl | hb
  ·exact⟨_,q,fun v z=>by cases z⟩
  ·obtain rfl:b=it:=by simpa using hb
   obtain⟨o,e,c,d⟩:=st;exact⟨o,e,fun v z=>by rw[d] at z;cases z⟩
 keep:=fun i h h' q k=>by
  obtain⟨⟨old,q⟩,st⟩:=q;exact⟨⟨old,k e (by simp) _ q⟩,st.at fun o z=>k it (by simp) o z⟩
 item:=by
  intro X hP hw hK hc i pins s σ H E I hf q hg;obtain⟨⟨old,q⟩,st⟩:=q;subst hP hw hK;obtain⟨xs,x,hq,hx⟩:=hg;obtain⟨its,rv,p,hz⟩:=I.list hq;obtain⟨u,hu,ru⟩:=rv.get hx;have el:e<s.heap.objs.size:=zG q;have il:it<s.heap.objs.size:=by obtain⟨o,z,_⟩:=st;exact zG z
  refine wpAny_pyNext_enum_item q st p.isList (x:=u) (by simpa using hu) hne fun h1 eo st1 ht hs1 k1=> ?_
  refine⟨_,rfl,wpAny_letOwnedTupleGo_enum eo fun h2 e2 sb=> ?_⟩;have uD:Heap.SameBut e h1 h2:=sb;have I2:Inv X pins σ (upd H s.heap.objs.size (.tup [.int i,x])) {s with heap:=h2,toks:=s.toks+1}:=
   Xn (fp:= [e,it]) (its:= [.int i s.toks,u]) I (fun b o hb z=>uD.extBut b o (fun y=>hb (by simp [y])) (k1 b o (fun y=>hb (by simp [y])) (fun y=>hb (by simp [y])) z))
    (fun b hb=>by
     rcases zT.mp hb with rfl | hb
     ·exact el
     ·obtain rfl:b=it:=by simpa using hb
      exact il)
    ((uD.2 _ (Nat.ne_of_gt el)).trans ht) (.cons ⟨_,rfl⟩ (.cons ru .nil)) (by show(2:Nat)<=sizeLine;decide) hf
  refine⟨.ref s.heap.objs.size,_,I2,rfl,⟨_,x,rfl,I.fresh,rfl,fun ys hy=>by rw[I.list_inj hy hq];exact hx⟩,⟨⟨u,?_⟩,(st1.extBut uD.extBut (Ne.symm hne))⟩,fun b hb=> ?_⟩
  ·have:((i+1:Nat):Int)=(i:Int)+1:=by omega
   rw[this];exact e2
  ·refine(Qf (hf b hb) ?_).1;rcases zT.mp hb with rfl | hb
   ·exact zJ el
   ·obtain rfl:b=it:=by simpa using hb
    exact zJ il
 done:=by
  intro X hP hw hK hc i pins s σ H E I hf q hg;obtain⟨⟨old,q⟩,st⟩:=q;subst hP hw hK;obtain⟨xs,hq,hx⟩:=hg;obtain⟨its,rv,p,hz⟩:=I.list hq;have hl:=rv.length;exact wpAny_pyNext_enum_end (I.ok.hd hc) q st p.isList (by simp;omega) fun h' eb=>⟨rfl,Qe (t' :=s.toks) (fp:= [e,it]) I (fun b o hb z=>eb b o (fun y=>hb (by simp [y])) z) hf⟩
 self:=fun _ _ _ _ _ q h=>by
  obtain⟨⟨old,q⟩,st⟩:=q;exact wpAny_pyIter_enum q h
theorem ziu:bootBuiltins "enumerate" =some (.type "enumerate"):=by decide+kernel
def Et(K:W.Frag)(ta:TA):TI:=fun σ H R=>ta σ H fun vs H1=>∃a xs,vs= [.ref a]/\fO K H1 a xs/\ (xs.length<=sizeLine ->R (Ite K a) H1)
theorem z07{X:Cx}{a:Expr}{ta:TA}{p pos:Pos}{elts:List Expr}{x1}{pt:Pos}(hg:Gl X "enumerate")(hm:X.mg "enumerate" =none)(ha:PA X [a] ta)(hs:starEach [a] X.env=(false,eval a X.env)::starEach [] X.env:=by rfl):
  PI X (.Tuple elts x1 pt) (.Call (.Name "enumerate" p) [a] [] pos) (Et X.K ta):=by
 intro pins s σ H R I h;refine Call_ (vK I hg hm ziu (PyProof.Rows.callWith_type1 (bF (ha pos pins s σ H _ I h) fun us s1 ⟨vs,H1,I1,r1,q1⟩=> ?_) hs rfl));obtain⟨l,xs,rfl,hq,q⟩:=q1;obtain⟨u,rfl,rx⟩:=vals1 r1;cases rx;obtain⟨its,rv,pl,hz⟩:=I1.list hq;refine call_enumerate_list pl.isList fun h' e1 st hsz kp=> ?_;refine wpAny_pyIter_enum (i:=0) e1 ⟨s1.heap.objs.size+1,[s1.heap.objs.size+1,s1.heap.objs.size],_,_,H1,rfl,I1.kept (t' :=s1.toks) kp,zvj l _ _ (Nat.ne_of_gt (Nat.lt_succ_self _)),⟨⟨_,e1⟩,st⟩,fun b hb=> ?_,q hz⟩;have hb2:s1.heap.objs.size<=b:=by
  rcases zT.mp hb with rfl | hb
  ·exact Nat.le_succ _
  ·obtain rfl:b=s1.heap.objs.size:=by simpa using hb
   exact zM _
 exact I1.fpOk hb2 (I1.hok.fresh hb2)
def uE:Nat ->List D ->List D
 | _,[]=> []
 | k,x::r=> .tup [.int k,x]::uE (k+1) r
theorem Qg:∀(k:Nat) (xs:List D),(uE k xs).length=xs.length
 | _,[]=>rfl
 | k,x::r=>by show(uE (k+1) r).length+1=r.length+1;rw[Qg]
theorem Qh:∀(k:Nat) (xs:List D) (i:Nat),(uE k xs)[i]?=(xs[i]?).map fun d=> .tup [.int (k+i:Nat),d]
 | _,[],_=>rfl
 | k,x::r,0=>rfl
 | k,x::r,i+1=>by
  show(uE (k+1) r)[i]?=_;rw[Qh (k+1) r i,show k+1+i=k+ (i+1) by omega]
  rfl
def Eu(t:aZ):aZ:=fun Γ P E=>t Γ (fun ds Γ1=>match ds with | [.lst xs]=>P (uE 0 xs) Γ1 | _=>False) E
theorem zwt{K:W.Frag}{F:Hp}{a:Addr}{vs:List V}{xs:List D}(hq:fO K F a vs)(rs:ak K F xs vs)(hz:vs.length<=sizeLine):yg K F Am (Ite K a) (uE 0 xs):=by
 have hl:=gM rs;refine⟨by rw[Qg];omega,fun i H2 F2 s2 s3 _=>⟨fun e=>⟨vs,s3.seq (s2.seq hq),by rw[e,Qg];omega⟩,fun d hd=> ?_⟩⟩
 rw[Qh] at hd;cases hx:xs[i]? with
 | none=>rw[hx] at hd;cases hd
 | some x=>
  rw[hx] at hd;cases hd;obtain⟨v,hv,rv⟩:=nD rs hx;refine⟨⟨vs,v,s3.seq (s2.seq hq),hv⟩,fun y H' z=> ?_⟩;obtain⟨b,v2,rfl,hb,rfl,z⟩:=z;have:=z vs (s3.seq (s2.seq hq));rw[hv] at this;cases this;have gr:=Gr.laid (o:=HO.tup [.int i,v]) s3 hb;refine⟨_,gr,?_⟩;unfold Rep;refine⟨b,_,rfl,.inl (.inl lV),oW ?_ (oW ((rv.up s2).up gr.f) (by unfold ak;rfl))⟩
  unfold Rep;simp
section
variable{X:Cx}{F0 H0:Hp}{a b e tg:Expr}{es:List Expr}{pos p pt:Pos}{te:aH}{t:aZ}{g:jD}{tb:au}{elts:List Expr}
theorem Xo{x1}(hc:X.calm=true)(hg:Gl X "enumerate")(hm:X.mg "enumerate" =none)(ha:QA X F0 H0 [a] t)(hs:starEach [a] X.env=(false,eval a X.env)::starEach [] X.env:=by rfl):
  QI X F0 H0 (.Tuple elts x1 pt) (.Call (.Name "enumerate" p) [a] [] pos) (Eu t):=fun z E cx=>Ek (z07 (X:=X.wsh z) hg hm (ha z E cx) hs) fun σ H R hq2=>by obtain⟨F,Γ,P,S,q,k⟩:=hq2;exact⟨F,Γ,_,S,q,fun ds Γ1 F1 H1 vs R1 s1 r1 h1=>by
  unfold Eu at*;split at h1
  ·unfold ak ak Rep at r1;obtain⟨v,_,rfl,⟨l,us,rfl,hq,rs⟩,rfl⟩:=r1;exact⟨l,us,rfl,R1.g.seq hq,fun hz=>k _ Γ1 F1 H1 _ R1 s1 (zwt hq rs hz) h1⟩
  ·exact h1.elim⟩
end
def yw:List D ->(D ->Prop) ->Prop:=fun ds P=>match ds with | [.bl b]=>P (.int (if b then 1 else 0)) | [.int i]=>P (.int i) | _=>False
theorem Js:cG X (.type "int") (nJ X.K yw):=by
 rintro pins s σ H xs us Q I r ⟨F,ds,P,sF,rs,h,k⟩;unfold yw at h;split at h
 ·unfold ak ak Rep at rs;obtain⟨v,_,rfl,rfl,rfl⟩:=rs;obtain⟨u,rfl,rx⟩:=vals1 r;cases rx;exact call_int_bool ⟨.int _,H,I.tok _,⟨_,rfl⟩,k _ _ F H (Gr.refl sF) (by unfold Rep;rfl) h⟩
 ·unfold ak ak Rep at rs;obtain⟨v,_,rfl,rfl,rfl⟩:=rs;obtain⟨u,rfl,rx⟩:=vals1 r;obtain⟨t,rfl⟩:=rx;exact call_int_int ⟨.int _,H,I,⟨_,rfl⟩,k _ _ F H (Gr.refl sF) (by unfold Rep;rfl) h⟩
 ·exact h.elim
def zxr:List D ->(List D ->Prop) ->Prop:=fun ds P=>match ds with | [.lst xs]=>∃ns,fW xs=some ns/\ns.length<64/\∀ms:List Int,ms.Perm ns ->ms.Pairwise (· <= ·) ->P (ms.map .int) | _=>False
section
variable{prog:Program}{w:World}{A:Around}{E:bG}{s:Shared}
def cR(t:Bool)(h:Heap)(it l:Addr)(i:Nat):Prop:=match t with | false=>h.IsListIter it l i | true=>h.IsTupleIter it l i
def dh(t:Bool)(h:Heap)(l:Addr)(xs:Array Value):Prop:=match t with | false=>h.IsList l xs | true=>h.IsTuple l xs
theorem vX(x:cR t h it l i)(k:∀o,h.get? it=some o ->h'.get? it=some o):cR t h' it l i:=by
 cases t<;>exact let ⟨o,ho,r⟩:=x;⟨o,k o ho,r⟩
theorem Qi(x:dh t h l xs)(k:∀o,h.get? l=some o ->h'.get? l=some o):dh t h' l xs:=by
 cases t<;>exact let ⟨o,ho,r⟩:=x;⟨o,k o ho,r⟩
theorem Jt(x:cR t h it l i):∃o,h.get? it=some o/\∀v,o.data≠ .cell v:=by
 cases t<;>exact let ⟨o,ho,_,d⟩:=x;⟨o,ho,fun v z=>by rw[d] at z;cases z⟩
theorem Ew(hl:dh t s.heap l xs)
  (hQ:Q (.ref s.heap.objs.size) {s with heap:=s.heap.push {cls:= .type (if t then "tuple_iterator" else "list_iterator"),data:= .fields #[.ref l,.int 0 0]}}):wpAny (model prog w) A (pyIter (.ref l)) Q E s:=by
 cases t
 ·exact wpAny_pyIter_list hl hQ
 ·exact wpAny_pyIter_tuple hl hQ
theorem Qj(hit:cR t s.heap it l i)(hl:dh t s.heap l xs)(hx:xs[i]?=some x)
  (hQ:∀h',cR t h' it l (i+1) ->Heap.SameBut it s.heap h' ->Q x {s with heap:=h'}):wpAny (model prog w) A (Builtin.SmallTypes.nextOf (.ref it)) Q E s:=by
 cases t
 ·exact wpAny_nextOf_list_item hit hl hx hQ
 ·have hit2:s.heap.IsTupleIter it l i:=hit;obtain⟨o,ho,hc,hd⟩:=id hit2;obtain⟨ol,hol,_,nl,hdl⟩:=(show s.heap.IsTuple l xs from hl);unfold Builtin.SmallTypes.nextOf;refine z6 (wpAny_callSpecial?_slot (name:=Str.ofString "__next__") hit2.typeIs F.slot_tuple_iterator_next (wpAny_call_entry F.slot_tuple_iterator_next hit2.typeIs F.entry_tuple_iterator_next ?_ (F.args_tuple_iterator_next_1 _)));show wpAny _ _ (field (.ref it) 0>>=_) _ _ s;refine z6 (wpAny_field ho hd (x:= .ref l) rfl ?_);show wpAny _ _ (if (Value.ref l==Value.none)=true then _ else _) _ _ s;rw[if_neg (show¬((Value.ref l==Value.none)=true) from Bool.false_ne_true)];show wpAny _ _ (field (.ref it) 1>>=_) _ _ s;refine z6 (wpAny_field ho hd (x:= .int i 0) rfl ?_);show wpAny _ _ (seqItems? (.ref l)>>=_) _ _ s;refine z6 (wpAny_seqItems hol hdl ?_);simp only [Int.toNat_natCast,hx];refine z6 (wpAny_setField ho hd (by simp) (z7 ⟨x,rfl,z7 (hQ _ ?_ (Heap.SameBut.update ..))⟩))
  exact⟨_,Heap.get?_update_self _ ho (Obj.isFreed_of_fields (Obj.data_mapFields hd _)),(Obj.cls_mapFields ..).trans hc,by rw[Obj.data_mapFields hd];simp [rawInt]⟩
theorem Xp(hh:A.handled=none)(hit:cR t s.heap it l i)(hl:dh t s.heap l xs)(hx:xs[i]?=none)
  (hE:∀h' e,Heap.ExtBut it s.heap h' ->(∃o,h'.get? e=some o/\o.cls= .type "StopIteration") ->E (.ref e) {s with heap:=h'}):wpAny (model prog w) A (Builtin.SmallTypes.nextOf (.ref it)) Q E s:=by
 cases t
 ·exact wpAny_nextOf_list_end hh hit hl hx hE
 ·have hit2:s.heap.IsTupleIter it l i:=hit;obtain⟨o,ho,hc,hd⟩:=id hit2;obtain⟨ol,hol,_,nl,hdl⟩:=(show s.heap.IsTuple l xs from hl);unfold Builtin.SmallTypes.nextOf;refine z6 (wpAny_callSpecial?_slot (name:=Str.ofString "__next__") hit2.typeIs F.slot_tuple_iterator_next (wpAny_call_entry F.slot_tuple_iterator_next hit2.typeIs F.entry_tuple_iterator_next ?_ (F.args_tuple_iterator_next_1 _)));show wpAny _ _ (field (.ref it) 0>>=_) _ _ s;refine z6 (wpAny_field ho hd (x:= .ref l) rfl ?_);show wpAny _ _ (if (Value.ref l==Value.none)=true then _ else _) _ _ s;rw[if_neg (show¬((Value.ref l==Value.none)=true) from Bool.false_ne_true)];show wpAny _ _ (field (.ref it) 1>>=_) _ _ s;refine z6 (wpAny_field ho hd (x:= .int i 0) rfl ?_);show wpAny _ _ (seqItems? (.ref l)>>=_) _ _ s;refine z6 (wpAny_seqItems hol hdl ?_);simp only [Int.toNat_natCast,hx];refine z6 (wpAny_rule (z6 (wpAny_setField ho hd (by simp) ?_)))
  show wpAny _ _ (newExc (.type "StopIteration") []>>=_) _ _ _;refine z6 ?_;simp only [newExc,newTuple];refine z6 (wpAny_newObj_type ?_ (by size_fits))
  refine z6 (m:=firstArgMember _ _) (wpAny_of_eq (a:=Value.none) (by first | rfl | (simp only [firstArgMember];rfl)) ?_)
  refine wpAny_newObj_type ?_ (by size_fits)
  simp only [raiseNew];refine z6 (wpAny_handled ?_)
  first | rw[show A.in1.handled=none from hh] | rw[hh]
  refine z6 (z7 (wpAny_throw ?_));exact hE _ _ (((Heap.SameBut.update ..).extBut.push _).push _) ⟨_,zY _ rfl,rfl⟩
structure mR (z TI TO i1 i2 l1 l2:Addr):Prop where
 p:TI≠z/\TO≠z/\i1≠z/\i2≠z/\TI≠TO/\TI≠i1/\TI≠i2/\TO≠i1/\TO≠i2/\i1≠i2
 q:l1≠z/\l1≠TO/\l1≠i1/\l1≠i2/\l2≠z/\l2≠TO/\l2≠i1/\l2≠i2
theorem mR.k{z TI TO i1 i2 l1 l2:Addr}(D:mR z TI TO i1 i2 l1 l2):ZipApart z TI TO i1 i2 l1 l2:=by
 obtain⟨⟨a1,a2,a3,a4,a5,a6,a7,a8,a9,a10⟩,b1,b2,b3,b4,b5,b6,b7,b8⟩:=D;exact⟨a1,a2,a3,a4,a5,a6,a7,a8,a9,a10,b1,b2,b3,b4,b5,b6,b7,b8⟩
theorem zr5{t1 t2:Bool}{z TI TO i1 i2 l1 l2:Addr}{k1 k2:Nat}{xs ys:Array Value}{x y a b:Value}{Q:bG}(D:ZipApart z TI TO i1 i2 l1 l2)(hz:IsZip s.heap z TI TO .none)(hTI:IsPair s.heap TI (.ref i1) (.ref i2))(hTO:IsPair s.heap TO a b)
  (h1:cR t1 s.heap i1 l1 k1) (h2:cR t2 s.heap i2 l2 k2) (hl1:dh t1 s.heap l1 xs) (hl2:dh t2 s.heap l2 ys) (hx:xs[k1]?=some x) (hy:ys[k2]?=some y)
  (hQ:∀h',IsZip h' z TI TO (rawInt s.heap.objs.size) ->IsPair h' TO x y ->cR t1 h' i1 l1 (k1+1) ->cR t2 h' i2 l2 (k2+1) ->IsPair h' s.heap.objs.size x y ->h'.objs.size=s.heap.objs.size+1 ->
   (∀c o,c≠z ->c≠TO ->c≠i1 ->c≠i2 ->s.heap.get? c=some o ->h'.get? c=some o) ->Q (.ref s.heap.objs.size) {s with heap:=h'}):wpAny (model prog w) A (Builtin.«zip.__next__» ⟨[.ref z],[]⟩) (fun fin s' =>∃v,fin= .done (.ret v)/\Q v s') E s:=by
 have kI:∀{t:Bool} {h h' :Heap} {it l c:Addr} {i:Nat},cR t h it l i ->Heap.ExtBut c h h' ->it≠c ->cR t h' it l i:=fun x e n=>vX x fun o ho=>e _ o n ho;have kS:∀{t:Bool} {h h' :Heap} {l c:Addr} {ws:Array Value},dh t h l ws ->Heap.ExtBut c h h' ->l≠c ->dh t h' l ws:=fun x e n=>Qi x fun o ho=>e _ o n ho;show wpAny _ _ (field (.ref z) 2>>=_) _ _ _;refine z6 (wpAny_field hz rfl (x:= .bool false) rfl ?_);show wpAny _ _ (field (.ref z) 3>>=_) _ _ _;refine z6 (wpAny_field hz rfl (x:= .ref TI) rfl ?_);refine z6 (wpAny_seqItems hTI rfl ?_);show wpAny _ _ (Builtin.SmallTypes.ownedTupleIsFree (.ref z)>>=_) _ _ _;refine z6 ?_;unfold Builtin.SmallTypes.ownedTupleIsFree;refine z6 (wpAny_field hz rfl (x:= .none) rfl (z7 ?_));simp only [if_true];refine z6 (wpAny_rule ?_);refine z6 (wpAny_field hz rfl (x:= .ref TO) rfl ?_);refine z6 (wpAny_setField_rec hz (by simp) fun g1 hz1 hs1=> ?_)
 replace hz1:IsZip g1 z TI TO .ellipsis:=hz1;refine z6 ?_;simp only [List.zipIdx_cons,List.zipIdx_nil,List.forIn_cons,List.forIn_nil];refine z6 (z6 (wpAny_onRaise ?_));show wpAny _ _ (Builtin.SmallTypes.nextOf (.ref i1)>>=_) _ _ _;refine z6 (Qj (kI h1 hs1.extBut D.i1z) (kS hl1 hs1.extBut D.l1z) hx fun g2 q1 hs2=>z7 ?_);have Ey :IsPair g2 TO a b:=hs2.extBut _ _ D.TOi1 (hs1.extBut _ _ D.TOz hTO);refine z6 (wpAny_seqItems Ey rfl ?_);refine z6 (wpAny_updateSeq_pair Ey fun g3 t3 hs3=> ?_);replace t3:IsPair g3 TO x b:=t3;refine z6 (wpAny_letGo (z7 ?_));refine z6 (z6 (wpAny_onRaise ?_));show wpAny _ _ (Builtin.SmallTypes.nextOf (.ref i2)>>=_) _ _ _;refine z6 (Qj (kI (kI (kI h2 hs1.extBut D.i2z) hs2.extBut D.i12.symm) hs3.extBut D.TOi2.symm) (kS (kS (kS hl2 hs1.extBut D.l2z) hs2.extBut D.l2i1) hs3.extBut D.l2TO) hy fun g4 q2 vY=>z7 ?_);have t4:IsPair g4 TO x b:=vY.extBut _ _ D.TOi2 t3;refine z6 (wpAny_seqItems t4 rfl ?_);refine z6 (wpAny_updateSeq_pair t4 fun g5 t5 vZ=> ?_);replace t5:IsPair g5 TO x y:=t5;refine z6 (wpAny_letGo (z7 (z7 ?_)));refine z6 (wpAny_seqItems t5 rfl ?_);refine z6 (wpAny_newTuple ?_);have hsz:g5.objs.size=s.heap.objs.size:=by rw[vZ.1,vY.1,hs3.1,hs2.1,hs1.1]
 have Pj:IsZip g5 z TI TO .ellipsis:=vZ.extBut _ _ D.TOz.symm (vY.extBut _ _ D.i2z.symm (hs3.extBut _ _ D.TOz.symm (hs2.extBut _ _ D.i1z.symm hz1)));have hk5:∀c o,c≠z ->c≠TO ->c≠i1 ->c≠i2 ->s.heap.get? c=some o ->g5.get? c=some o:=fun c o c1 c2 c3 c4 e=>vZ.extBut _ _ c2 (vY.extBut _ _ c4 (hs3.extBut _ _ c2 (hs2.extBut _ _ c3 (hs1.extBut _ _ c1 e))));have r1:cR t1 g5 i1 l1 (k1+1):=kI (kI (kI q1 hs3.extBut D.TOi1.symm) vY.extBut D.i12) vZ.extBut D.TOi1.symm;have r2:cR t2 g5 i2 l2 (k2+1):=kI q2 vZ.extBut D.TOi2.symm;have Xq:z<g5.objs.size:=zG Pj;show wpAny _ _ (Builtin.SmallTypes.ownedTupleHandOut (.ref z) (.ref g5.objs.size)>>=_) _ _ _;refine z6 ?_;unfold Builtin.SmallTypes.ownedTupleHandOut;have hz6:IsZip (g5.push {cls:= .type "tuple",data:= .seq #[x,y]}) z TI TO .ellipsis:=zZ _ Pj;refine z6 (wpAny_setField_rec hz6 (by simp) fun g7 Qk Ql=> ?_)
 replace Qk:IsZip g7 z TI TO (rawInt g5.objs.size):=Qk;refine wpAny_setField_rec Qk (by simp) fun g8 hz8 Qm=> ?_
 replace hz8:IsZip g8 z TI TO (rawInt g5.objs.size):=hz8;have up:∀c o,c≠z ->g5.get? c=some o ->g8.get? c=some o:=fun c o c1 e=>Qm.extBut _ _ c1 (Ql.extBut _ _ c1 (zZ _ e));have hT8:IsPair g8 g5.objs.size x y:=Qm.extBut _ _ (Nat.ne_of_gt Xq) (Ql.extBut _ _ (Nat.ne_of_gt Xq) (zY _ rfl));have Xr:g8.objs.size=g5.objs.size+1:=by rw[Qm.1,Ql.1,Heap.size_push]
 rw[hsz] at hz8 hT8 Xr;refine z7 ⟨_,rfl,?_⟩;show Q (.ref g5.objs.size) _;rw[hsz];exact hQ g8 hz8 (up _ _ D.TOz t5) (vX r1 fun o e=>up _ o D.i1z e) (vX r2 fun o e=>up _ o D.i2z e) hT8 Xr fun c o c1 c2 c3 c4 e=>up c o c1 (hk5 c o c1 c2 c3 c4 e)
theorem zwi{t1 t2:Bool}{z TI TO i1 i2 l1 l2:Addr}{k1 k2:Nat}{xs ys:Array Value}{a b:Value}{Q:Fin ->Shared ->Prop}(hh:A.handled=none)(D:ZipApart z TI TO i1 i2 l1 l2)(hz:IsZip s.heap z TI TO .none)(hTI:IsPair s.heap TI (.ref i1) (.ref i2))(hTO:IsPair s.heap TO a b)
  (h1:cR t1 s.heap i1 l1 k1) (h2:cR t2 s.heap i2 l2 k2) (hl1:dh t1 s.heap l1 xs) (hl2:dh t2 s.heap l2 ys) (hend:xs[k1]?=none\/ys[k2]?=none)
  (hE:∀h' e,(∀c o,c≠z ->c≠TO ->c≠i1 ->c≠i2 ->s.heap.get? c=some o ->h'.get? c=some o) ->(∃o,h'.get? e=some o/\o.cls= .type "StopIteration") ->E (.ref e) {s with heap:=h'}):wpAny (model prog w) A (Builtin.«zip.__next__» ⟨[.ref z],[]⟩) Q E s:=by
 have kI:∀{t:Bool} {h h' :Heap} {it l c:Addr} {i:Nat},cR t h it l i ->Heap.ExtBut c h h' ->it≠c ->cR t h' it l i:=fun x e n=>vX x fun o ho=>e _ o n ho;have kS:∀{t:Bool} {h h' :Heap} {l c:Addr} {ws:Array Value},dh t h l ws ->Heap.ExtBut c h h' ->l≠c ->dh t h' l ws:=fun x e n=>Qi x fun o ho=>e _ o n ho;show wpAny _ _ (field (.ref z) 2>>=_) _ _ _;refine z6 (wpAny_field hz rfl (x:= .bool false) rfl ?_);show wpAny _ _ (field (.ref z) 3>>=_) _ _ _;refine z6 (wpAny_field hz rfl (x:= .ref TI) rfl ?_);refine z6 (wpAny_seqItems hTI rfl ?_);show wpAny _ _ (Builtin.SmallTypes.ownedTupleIsFree (.ref z)>>=_) _ _ _;refine z6 ?_;unfold Builtin.SmallTypes.ownedTupleIsFree;refine z6 (wpAny_field hz rfl (x:= .none) rfl (z7 ?_));simp only [if_true];refine z6 (wpAny_rule ?_);refine z6 (wpAny_field hz rfl (x:= .ref TO) rfl ?_);refine z6 (wpAny_setField_rec hz (by simp) fun g1 hz1 hs1=> ?_)
 replace hz1:IsZip g1 z TI TO .ellipsis:=hz1;refine z6 ?_;simp only [List.zipIdx_cons,List.zipIdx_nil,List.forIn_cons,List.forIn_nil];refine z6 (z6 (wpAny_onRaise ?_));show wpAny _ _ (Builtin.SmallTypes.nextOf (.ref i1)>>=_) _ _ _;cases hx:xs[k1]? with
 | none=>
  refine z6 (Xp hh (kI h1 hs1.extBut D.i1z) (kS hl1 hs1.extBut D.l1z) hx fun g2 e hs2 he=> ?_);obtain⟨oe,hoe,hce⟩:=he;have hz2:IsZip g2 z TI TO .ellipsis:=hs2 _ _ D.i1z.symm hz1;have hez:e≠z:=fun x=>by subst x;rw[hz2] at hoe;cases hoe;simp at hce
  exact wpAny_setField_rec hz2 (by simp) fun g3 _ hs3=>hE g3 e (fun c o c1 _ c3 _ x=>hs3.extBut _ _ c1 (hs2 _ _ c3 (hs1.extBut _ _ c1 x))) ⟨oe,hs3.extBut _ _ hez hoe,hce⟩
 | some x=>
  have hy:ys[k2]?=none:=by rcases hend with h | h;rw[hx] at h;cases h;exact h
  refine z6 (Qj (kI h1 hs1.extBut D.i1z) (kS hl1 hs1.extBut D.l1z) hx fun g2 q1 hs2=>z7 ?_);have Ey :IsPair g2 TO a b:=hs2.extBut _ _ D.TOi1 (hs1.extBut _ _ D.TOz hTO);refine z6 (wpAny_seqItems Ey rfl ?_);refine z6 (wpAny_updateSeq_pair Ey fun g3 t3 hs3=> ?_);refine z6 (wpAny_letGo (z7 ?_));refine z6 (z6 (wpAny_onRaise ?_));show wpAny _ _ (Builtin.SmallTypes.nextOf (.ref i2)>>=_) _ _ _;refine z6 (Xp hh (kI (kI (kI h2 hs1.extBut D.i2z) hs2.extBut D.i12.symm) hs3.extBut D.TOi2.symm) (kS (kS (kS hl2 hs1.extBut D.l2z) hs2.extBut D.l2i1) hs3.extBut D.l2TO) hy fun g4 e vY he=> ?_);obtain⟨oe,hoe,hce⟩:=he;have Xu:IsZip g4 z TI TO .ellipsis:=vY _ _ D.i2z.symm (hs3.extBut _ _ D.TOz.symm (hs2.extBut _ _ D.i1z.symm hz1));have hez:e≠z:=fun x=>by subst x;rw[Xu] at hoe;cases hoe;simp at hce
  exact wpAny_setField_rec Xu (by simp) fun g5 _ vZ=>hE g5 e (fun c o c1 c2 c3 c4 x=>vZ.extBut _ _ c1 (vY _ _ c4 (hs3.extBut _ _ c2 (hs2.extBut _ _ c3 (hs1.extBut _ _ c1 x))))) ⟨oe,vZ.extBut _ _ hez hoe,hce⟩
theorem zrt{t1 t2:Bool}{z TI TO i1 i2 l1 l2:Addr}{k1 k2:Nat}{xs ys:Array Value}{x y a b:Value}{Q:Option Value ->Shared ->Prop}(D:ZipApart z TI TO i1 i2 l1 l2)(hz:IsZip s.heap z TI TO .none)(hTI:IsPair s.heap TI (.ref i1) (.ref i2))(hTO:IsPair s.heap TO a b)
  (h1:cR t1 s.heap i1 l1 k1) (h2:cR t2 s.heap i2 l2 k2) (hl1:dh t1 s.heap l1 xs) (hl2:dh t2 s.heap l2 ys) (hx:xs[k1]?=some x) (hy:ys[k2]?=some y)
  (hQ:∀h',IsZip h' z TI TO (rawInt s.heap.objs.size) ->IsPair h' TO x y ->cR t1 h' i1 l1 (k1+1) ->cR t2 h' i2 l2 (k2+1) ->IsPair h' s.heap.objs.size x y ->h'.objs.size=s.heap.objs.size+1 ->
   (∀c o,c≠z ->c≠TO ->c≠i1 ->c≠i2 ->s.heap.get? c=some o ->h'.get? c=some o) ->Q (some (.ref s.heap.objs.size)) {s with heap:=h'}):wpAny (model prog w) A (pyNext (.ref z)) Q E s:=by
 have hT:s.TypeIs (.ref z) "zip" :=⟨_,hz,rfl⟩;unfold pyNext;exact z6 (wpAny_attempt (wpAny_callSpecial?_slot (name:=Str.ofString "__next__") hT F.slot_zip_next (wpAny_call_entry F.slot_zip_next hT F.entry_zip_next (zr5 D hz hTI hTO h1 h2 hl1 hl2 hx hy fun h' a1 a2 a3 a4 a5 a6 a7=>z7 (hQ h' a1 a2 a3 a4 a5 a6 a7)) (F.args_zip_next_1 _))))
theorem zs1{t1 t2:Bool}{z TI TO i1 i2 l1 l2:Addr}{k1 k2:Nat}{xs ys:Array Value}{a b:Value}{Q:Option Value ->Shared ->Prop}(hh:A.handled=none)(D:ZipApart z TI TO i1 i2 l1 l2)(hz:IsZip s.heap z TI TO .none)(hTI:IsPair s.heap TI (.ref i1) (.ref i2))(hTO:IsPair s.heap TO a b)
  (h1:cR t1 s.heap i1 l1 k1) (h2:cR t2 s.heap i2 l2 k2) (hl1:dh t1 s.heap l1 xs) (hl2:dh t2 s.heap l2 ys) (hend:xs[k1]?=none\/ys[k2]?=none)
  (hQ:∀h',(∀c o,c≠z ->c≠TO ->c≠i1 ->c≠i2 ->s.heap.get? c=some o ->h'.get? c=some o) ->Q none {s with heap:=h'}):wpAny (model prog w) A (pyNext (.ref z)) Q E s:=by
 have hT:s.TypeIs (.ref z) "zip" :=⟨_,hz,rfl⟩;unfold pyNext;refine z6 (wpAny_attempt (wpAny_callSpecial?_slot (name:=Str.ofString "__next__") hT F.slot_zip_next (wpAny_call_entry F.slot_zip_next hT F.entry_zip_next (zwi hh D hz hTI hTO h1 h2 hl1 hl2 hend fun h' e hk he=> ?_) (F.args_zip_next_1 _))));obtain⟨o,ho,hc⟩:=he;refine z6 (wpAny_isInstance (T:= "StopIteration") (b:=true) ⟨o,ho,hc⟩ isSubtype_stop ?_);exact z7 (hQ _ hk)
def Ez(t:Bool):String:=if t then "tuple_iterator" else "list_iterator"
abbrev Ju(t1:Bool)(h:Heap)(l1:Addr):Heap:=h.push {cls:= .type (Ez t1),data:= .fields #[.ref l1,.int 0 0]}
abbrev Jv(t1 t2:Bool)(h:Heap)(l1 l2:Addr):Heap:=(Ju t1 h l1).push {cls:= .type (Ez t2),data:= .fields #[.ref l2,.int 0 0]}
abbrev Jw(t1 t2:Bool)(h:Heap)(l1 l2:Addr):Heap:=(Jv t1 t2 h l1 l2).push {cls:= .type "tuple",data:= .seq #[.ref h.objs.size,.ref (Ju t1 h l1).objs.size]}
abbrev Jx(t1 t2:Bool)(h:Heap)(l1 l2:Addr):Heap:=(Jw t1 t2 h l1 l2).push {cls:= .type "tuple",data:= .seq #[.none,.none]}
abbrev Ba(t1 t2:Bool)(h:Heap)(l1 l2:Addr):Heap:=(Jx t1 t2 h l1 l2).push {cls:= .type "zip",data:= .fields #[.none,.bool false,.bool false,.ref (Jv t1 t2 h l1 l2).objs.size,.ref (Jw t1 t2 h l1 l2).objs.size]}
theorem zs5(x:dh t h l xs)(o:Obj):dh t (h.push o) l xs:=Qi x fun _ e=>zZ _ e
theorem sG(hl:dh t s.heap l xs)
  (hQ:Q (.ref s.heap.objs.size) {s with heap:=s.heap.push {cls:= .type (Ez t),data:= .fields #[.ref l,.int 0 0]}}):wpAny (model prog w) A (pyIter (.ref l)) Q E s:=Ew hl hQ
theorem yx(t1 t2:Bool)(l1 l2:Addr)(xs ys:Array Value):Meets (Builtin.«zip.__new__» ⟨[.type "zip",.ref l1,.ref l2],[]⟩) (fun _ R s=>dh t1 s.heap l1 xs/\dh t2 s.heap l2 ys/\R (.ok (.ret (.ref (Jx t1 t2 s.heap l1 l2).objs.size))) {s with heap:=Ba t1 t2 s.heap l1 l2}):=
 .of_wp fun prog w A R s h=>by
  obtain⟨hp,g,d,tk,os⟩:=s;obtain⟨hl1,hl2,h⟩:=h;have hsub:=sub_zip;have hL1:dh t1 (Shared.heap ⟨hp,g,d,tk,os⟩) l1 xs:=hl1;have hL2:dh t2 (Shared.heap ⟨hp.push {cls:= .type (Ez t1),data:= .fields #[.ref l1,.int 0 0]},g,d,tk,os⟩) l2 ys:=zs5 hl2 _
  wp_walk using sG hL1,sG hL2
  exact⟨_,rfl,h⟩
theorem Xv(e:h.get? a=some {cls:= .type (Ez t),data:= .fields #[.ref l,.int 0 0]}):cR t h a l 0:=by
 cases t<;>exact⟨_,e,rfl,rfl⟩
theorem zta(hl1:dh t1 s.heap l1 xs)(hl2:dh t2 s.heap l2 ys)
  (h:∀h',IsZip h' (s.heap.objs.size+4) (s.heap.objs.size+2) (s.heap.objs.size+3) .none ->IsPair h' (s.heap.objs.size+2) (.ref s.heap.objs.size) (.ref (s.heap.objs.size+1)) ->IsPair h' (s.heap.objs.size+3) .none .none ->cR t1 h' s.heap.objs.size l1 0 ->cR t2 h' (s.heap.objs.size+1) l2 0 ->
   (∀c o,s.heap.get? c=some o ->h'.get? c=some o) ->Q (.ref (s.heap.objs.size+4)) {s with heap:=h'}):wpAny (model prog w) A (call (.type "zip") [.ref l1,.ref l2]) Q E s:=by
 refine callType_new F.called_zip (by decide) (F.typeCall_zip_2 _ _) (F.newCall_zip_2 _ _) (fun obj=>F.args_object_init_3 obj _ _) F.entry_zip_new (yx t1 t2 l1 l2 xs ys) ⟨hl1,hl2,?_⟩
 have z1:(Ju t1 s.heap l1).objs.size=s.heap.objs.size+1:=Heap.size_push ..;have z2:(Jv t1 t2 s.heap l1 l2).objs.size=s.heap.objs.size+2:=by rw[Heap.size_push,z1]
 have z3:(Jw t1 t2 s.heap l1 l2).objs.size=s.heap.objs.size+3:=by rw[Heap.size_push,z2]
 have z4:(Jx t1 t2 s.heap l1 l2).objs.size=s.heap.objs.size+4:=by rw[Heap.size_push,z3]
 have g5:(Ba t1 t2 s.heap l1 l2).get? (Jx t1 t2 s.heap l1 l2).objs.size=some _:=zY _ rfl;have g4:(Ba t1 t2 s.heap l1 l2).get? (Jw t1 t2 s.heap l1 l2).objs.size=some _:=zZ _ (zY _ rfl);have g3:(Ba t1 t2 s.heap l1 l2).get? (Jv t1 t2 s.heap l1 l2).objs.size=some _:=zZ _ (zZ _ (zY _ rfl));have g2:(Ba t1 t2 s.heap l1 l2).get? (Ju t1 s.heap l1).objs.size=some _:=zZ _ (zZ _ (zZ _ (zY _ rfl)));have g1:(Ba t1 t2 s.heap l1 l2).get? s.heap.objs.size=some _:=zZ _ (zZ _ (zZ _ (zZ _ (zY _ rfl))));show _/\_;rw[z2,z3,z4] at g5;rw[z1,z2] at g3;rw[z3] at g4;rw[z1] at g2;rw[z4];exact⟨⟨_,g5,rfl⟩,h _ g5 g3 g4 (Xv g1) (Xv g2) fun c o x=>zZ _ (zZ _ (zZ _ (zZ _ (zZ _ x))))⟩
end
def Sq(t:Bool)(K:W.Frag)(H:Hp)(a:Addr)(xs:List V):Prop:=match t with | false=>fO K H a xs | true=>iK K H a xs
theorem Bb(I:Inv X pins σ H s)(h:Sq t X.K H a xs):∃its:List Value,Vals xs its/\dh t s.heap a its.toArray/\xs.length<=sizeLine:=by
 cases t
 ·obtain⟨its,rv,p,hz⟩:=I.list h;exact⟨its,rv,p.isList,hz⟩
 ·obtain⟨its,rv,p,hz⟩:=I.tuple h;exact⟨its,rv,p,hz⟩
theorem Xw(I:Inv X pins σ H s)(h:Sq t X.K H a xs)(h' :Sq t X.K H a ys):xs=ys:=by
 cases t
 ·exact I.list_inj h h'
 ·exact I.tuple_inj h h'
def Qn(K:W.Frag)(t1 t2:Bool)(a b:Addr):It:=
 ⟨fun i H=>∃xs ys x y,Sq t1 K H a xs/\Sq t2 K H b ys/\xs[i]?=some x/\ys[i]?=some y,fun i H v H' =>∃c x y,v= .ref c/\H c=none/\H' =upd H c (.tup [x,y])/\ (∀xs,Sq t1 K H a xs ->xs[i]?=some x)/\∀ys,Sq t2 K H b ys ->ys[i]?=some y,
  fun i H=>∃xs ys,Sq t1 K H a xs/\Sq t2 K H b ys/\ (xs.length<=i\/ys.length<=i)⟩
theorem zap{n l1 l2:Nat}(h1:l1<n)(h2:l2<n):mR (n+4) (n+2) (n+3) n (n+1) l1 l2:=by
 have e:∀a b:Nat,a≠b ->(a:Addr)≠b:=fun _ _ h=>h;refine⟨⟨e _ _ ?_,e _ _ ?_,e _ _ ?_,e _ _ ?_,e _ _ ?_,e _ _ ?_,e _ _ ?_,e _ _ ?_,e _ _ ?_,e _ _ ?_⟩,e _ _ ?_,e _ _ ?_,e _ _ ?_,e _ _ ?_,e _ _ ?_,e _ _ ?_,e _ _ ?_,e _ _ ?_⟩<;>omega
theorem zwp{P:Program}{w:World}{K:W.Frag}{elts:List Expr}{x1}{pos:Pos}(t1 t2:Bool)(a b z TI TO i1 i2:Addr)(D:mR z TI TO i1 i2 a b):Turn P w K (.Tuple elts x1 pos) (Qn K t1 t2 a b) [z,TI,TO,i1,i2] z
  (fun i h=>IsZip h z TI TO .none/\IsPair h TI (.ref i1) (.ref i2)/\ (∃u v,IsPair h TO u v)/\cR t1 h i1 a i/\cR t2 h i2 b i) where
 mem:=by simp
 obj:=fun i h q c hc=>by
  obtain⟨q1,q2,⟨u,v,q3⟩,q4,q5⟩:=q;simp only [List.mem_cons,List.not_mem_nil,or_false] at hc;rcases hc with rfl | rfl | rfl | rfl | rfl
  ·exact⟨_,q1,fun v z=>by cases z⟩
  ·exact⟨_,q2,fun v z=>by cases z⟩
  ·exact⟨_,q3,fun v z=>by cases z⟩
  ·exact Jt q4
  ·exact Jt q5
 keep:=fun i h h' q k=>by
  obtain⟨q1,q2,⟨u,v,q3⟩,q4,q5⟩:=q;exact⟨k z (by simp) _ q1,k TI (by simp) _ q2,⟨u,v,k TO (by simp) _ q3⟩,vX q4 fun o e=>k i1 (by simp) o e,vX q5 fun o e=>k i2 (by simp) o e⟩
 item:=by
  intro X hP hw hK hc i pins s σ H E I hf q hg;obtain⟨q1,q2,⟨u,v,q3⟩,q4,q5⟩:=q;subst hP hw hK;obtain⟨xs,ys,x,y,hq1,hq2,hx,hy⟩:=hg;obtain⟨its,rv,p,_⟩:=Bb I hq1;obtain⟨jts,Jy,p2,_⟩:=Bb I hq2;obtain⟨ux,hux,rux⟩:=rv.get hx;obtain⟨uy,huy,ruy⟩:=Jy.get hy;have lt:∀c∈ [z,TI,TO,i1,i2],c<s.heap.objs.size:=fun c hc=>by
   simp only [List.mem_cons,List.not_mem_nil,or_false] at hc;rcases hc with rfl | rfl | rfl | rfl | rfl
   ·exact zG q1
   ·exact zG q2
   ·exact zG q3
   ·obtain⟨o,e,_⟩:=Jt q4;exact zG e
   ·obtain⟨o,e,_⟩:=Jt q5;exact zG e
  have Dk:=D.k;refine zrt Dk q1 q2 q3 q4 q5 p p2 (x:=ux) (y:=uy) (by simpa using hux) (by simpa using huy) fun h1 a1 a2 a3 a4 a5 a6 k1=> ?_
  refine⟨_,rfl,wpAny_letOwnedTupleGo_zip a1 fun h2 e2 sb=> ?_⟩;have uD:Heap.SameBut z h1 h2:=sb;have zl:=lt z (by simp)
  have I2:Inv X pins σ (upd H s.heap.objs.size (.tup [x,y])) {s with heap:=h2,toks:=s.toks}:=
   Xn (fp:= [z,TI,TO,i1,i2]) (its:= [ux,uy]) I (fun c o hb e=>uD.extBut c o (fun y=>hb (by simp [y])) (k1 c o (fun y=>hb (by simp [y])) (fun y=>hb (by simp [y])) (fun y=>hb (by simp [y])) (fun y=>hb (by simp [y])) e))
    lt ((uD.2 _ (Nat.ne_of_gt zl)).trans a5) (.cons rux (.cons ruy .nil)) (by show(2:Nat)<=sizeLine;decide) hf
  refine⟨.ref s.heap.objs.size,_,I2,rfl,⟨_,x,y,rfl,I.fresh,rfl,fun zs hz=>by rw[Xw I hz hq1];exact hx,fun zs hz=>by rw[Xw I hz hq2];exact hy⟩,⟨e2,?_,⟨ux,uy,uD.extBut _ _ Dk.TOz a2⟩,vX a3 fun o e=>uD.extBut _ o Dk.i1z e,vX a4 fun o e=>uD.extBut _ o Dk.i2z e⟩,fun c hc=> ?_⟩
  ·exact uD.extBut _ _ Dk.TIz (k1 _ _ Dk.TIz Dk.TITO Dk.TIi1 Dk.TIi2 q2)
  ·exact(Qf (hf c hc) (zJ (lt c hc))).1
 done:=by
  intro X hP hw hK hc i pins s σ H E I hf q hg;obtain⟨q1,q2,⟨u,v,q3⟩,q4,q5⟩:=q;subst hP hw hK;obtain⟨xs,ys,hq1,hq2,hx⟩:=hg;obtain⟨its,rv,p,_⟩:=Bb I hq1;obtain⟨jts,Jy,p2,_⟩:=Bb I hq2;have l1:=rv.length;have l2:=Jy.length;refine zs1 (I.ok.hd hc) D.k q1 q2 q3 q4 q5 p p2 ?_ fun h' k1=>⟨rfl,Qe (t' :=s.toks) (fp:= [z,TI,TO,i1,i2]) I (fun c o hb e=>k1 c o (fun y=>hb (by simp [y])) (fun y=>hb (by simp [y])) (fun y=>hb (by simp [y])) (fun y=>hb (by simp [y])) e) hf⟩
  rcases hx with hx | hx
  ·exact .inl (by simp;omega)
  ·exact .inr (by simp;omega)
 self:=fun _ _ _ _ _ q h=>wpAny_pyIter_zip q.1 h
theorem zv2:bootBuiltins "zip" =some (.type "zip"):=by decide+kernel
def Qo(K:W.Frag)(ta:TA):TI:=fun σ H R=>ta σ H fun vs H1=>∃t1 t2 a b xs ys,vs= [.ref a,.ref b]/\Sq t1 K H1 a xs/\Sq t2 K H1 b ys/\ (xs.length<=sizeLine ->ys.length<=sizeLine ->R (Qn K t1 t2 a b) H1)
theorem z2t{X:Cx}{a b:Expr}{ta:TA}{p pos:Pos}{elts:List Expr}{x1}{pt:Pos}(hg:Gl X "zip")(hm:X.mg "zip" =none)(ha:PA X [a,b] ta)(hs:starEach [a,b] X.env=(false,eval a X.env)::starEach [b] X.env:=by rfl)(hpl:(backTo pos (starEach [b] X.env)).any (·.1)=false:=by rfl):
  PI X (.Tuple elts x1 pt) (.Call (.Name "zip" p) [a,b] [] pos) (Qo X.K ta):=by
 intro pins s σ H R I h;refine Call_ (vK I hg hm zv2 (PyProof.Rows.callWith_type1 (bF (ha pos pins s σ H _ I h) fun us s1 ⟨vs,H1,I1,r1,q1⟩=> ?_) hs hpl));obtain⟨t1,t2,l1,l2,xs,ys,rfl,hq1,hq2,q⟩:=q1;cases r1 with
 | cons r rr=>
  cases rr with
  | cons r' rr=>
   cases rr;cases r;cases r';obtain⟨its,rv,p1,hz1⟩:=Bb I1 hq1;obtain⟨jts,Jy,p2,hz2⟩:=Bb I1 hq2;have n1:l1<s1.heap.objs.size:=by cases t1<;>exact let ⟨o,e,_⟩:=p1;zG e
   have n2:l2<s1.heap.objs.size:=by cases t2<;>exact let ⟨o,e,_⟩:=p2;zG e
   refine zta p1 p2 fun h' e1 e2 e3 e4 e5 kp=> ?_;refine wpAny_pyIter_zip e1 ⟨s1.heap.objs.size+4,[s1.heap.objs.size+4,s1.heap.objs.size+2,s1.heap.objs.size+3,s1.heap.objs.size,s1.heap.objs.size+1],_,_,H1,rfl,I1.kept (t' :=s1.toks) kp,
    zwp t1 t2 l1 l2 _ _ _ _ _ (zap n1 n2),⟨e1,e2,⟨_,_,e3⟩,e4,e5⟩,fun c hc=> ?_,q hz1 hz2⟩
   have hb2:s1.heap.objs.size<=c:=by
    simp only [List.mem_cons,List.not_mem_nil,or_false] at hc;rcases hc with rfl | rfl | rfl | rfl | rfl
    ·exact Nat.le_add_right _ _
    ·exact Nat.le_add_right _ _
    ·exact Nat.le_add_right _ _
    ·exact zM _
    ·exact Nat.le_add_right _ _
   exact I1.fpOk hb2 (I1.hok.fresh hb2)
def jQ(xs ys:List D):List D:=List.zipWith (fun x y=> .tup [x,y]) xs ys
theorem Xx{K:W.Frag}{F:Hp}{t1 t2:Bool}{a b:Addr}{vs us:List V}{xs ys:List D}(hq1:∀H1,Same F H1 ->Sq t1 K H1 a vs)(hq2:∀H1,Same F H1 ->Sq t2 K H1 b us)(r1:ak K F xs vs)(r2:ak K F ys us)(hz:vs.length<=sizeLine):yg K F Am (Qn K t1 t2 a b) (jQ xs ys):=by
 have l1:=gM r1;have l2:=gM r2;have lz:(jQ xs ys).length=min xs.length ys.length:=List.length_zipWith;refine⟨by omega,fun i H2 F2 s2 s3 _=>⟨fun e=>⟨vs,us,hq1 H2 (s2.trans s3),hq2 H2 (s2.trans s3),by omega⟩,fun d hd=> ?_⟩⟩
 unfold jQ at hd;rw[List.getElem?_zipWith] at hd;cases e1:xs[i]? with
 | none=>rw[e1] at hd;cases hd
 | some x=>
  cases e2:ys[i]? with
  | none=>rw[e1,e2] at hd;cases hd
  | some y=>
   rw[e1,e2] at hd;cases hd;obtain⟨v,hv,rv⟩:=nD r1 e1;obtain⟨u,hu,ru⟩:=nD r2 e2;refine⟨⟨vs,us,v,u,hq1 H2 (s2.trans s3),hq2 H2 (s2.trans s3),hv,hu⟩,fun w H' z=> ?_⟩;obtain⟨c,v2,u2,rfl,hc,rfl,z1,z2⟩:=z;have:=z1 vs (hq1 H2 (s2.trans s3));rw[hv] at this;cases this;have:=z2 us (hq2 H2 (s2.trans s3));rw[hu] at this;cases this;have gr:=Gr.laid (o:=HO.tup [v,u]) s3 hc;refine⟨_,gr,?_⟩;unfold Rep;exact⟨c,_,rfl,.inl (.inl lV),oW ((rv.up s2).up gr.f) (oW ((ru.up s2).up gr.f) (by unfold ak;rfl))⟩
def sqD:D ->Option (Bool×List D) | .lst xs=>some (false,xs) | .tup xs=>some (true,xs) | _=>none
def EY(t:aZ):aZ:=fun Γ P E=>t Γ (fun ds Γ1=>match ds with | [x,y]=>(match x,y with | .lst xs,.lst ys=>P (jQ xs ys) Γ1 | .tup xs,.tup ys=>P (jQ xs ys) Γ1 | _,_=>False) | _=>False) E
section
variable{X:Cx}{F0 H0:Hp}{a b e tg:Expr}{es:List Expr}{pos p pt:Pos}{te:aH}{t:aZ}{elts:List Expr}
theorem Qp{x1}(hc:X.calm=true)(hg:Gl X "zip")(hm:X.mg "zip" =none)(ha:QA X F0 H0 [a,b] t)(hs:starEach [a,b] X.env=(false,eval a X.env)::starEach [b] X.env:=by rfl)(hpl:(backTo pos (starEach [b] X.env)).any (·.1)=false:=by rfl):
  QI X F0 H0 (.Tuple elts x1 pt) (.Call (.Name "zip" p) [a,b] [] pos) (EY t):=fun z E cx=>Ek (z2t (X:=X.wsh z) hg hm (ha z E cx) hs hpl) fun σ H R hq2=>by obtain⟨F,Γ,P,S,q,k⟩:=hq2;exact⟨F,Γ,_,S,q,fun ds Γ1 F1 H1 vs R1 s1 r1 h1=>by
  unfold EY at*;split at h1
  ·split at h1
   ·unfold ak ak ak Rep at r1;obtain⟨v,_,rfl,⟨l,us,rfl,hq,rs⟩,⟨v2,_,rfl,⟨l2,Qq,rfl,hq2,Az⟩,rfl⟩⟩:=r1;exact⟨false,false,l,l2,us,Qq,rfl,R1.g.seq hq,R1.g.seq hq2,fun hz _=>k _ Γ1 F1 H1 _ R1 s1 (Xx (t1:=false) (t2:=false) (fun H s=>s.seq hq) (fun H s=>s.seq hq2) rs Az hz) h1⟩
   ·unfold ak ak ak Rep at r1;obtain⟨v,_,rfl,⟨l,us,rfl,hq,rs⟩,⟨v2,_,rfl,⟨l2,Qq,rfl,hq2,Az⟩,rfl⟩⟩:=r1;exact⟨true,true,l,l2,us,Qq,rfl,lH R1.g hq,lH R1.g hq2,fun hz _=>k _ Γ1 F1 H1 _ R1 s1 (Xx (t1:=true) (t2:=true) (fun H s=>lH s hq) (fun H s=>lH s hq2) rs Az hz) h1⟩
   ·exact h1.elim
  ·exact h1.elim⟩
end
def v7:List Str ->List D ->Str ->Option D
 | f::fs,d::ds,g=>if g=f then some d else v7 fs ds g
 | _,_,_=>none
def aaP(C:Addr)(f:Str)(te:aH):aH:=fun Γ P E=>te Γ (fun d Γ1=>match d with | .obj C' fs ds=>C' =C/\∃x,v7 fs ds f=some x/\P x Γ1 | _=>False) E
def Xy(C:Addr)(m:Str)(sp:cj)(te:aH)(t:aZ):aH:=fun Γ P E=>te Γ (fun d Γ1=>match d with
 | .obj C' fs ds=>C' =C/\m∉fs/\t Γ1 (fun es Γ2=>sp (.obj C' fs ds::es) (fun r=>P r Γ2) fun Cx=>E Γ2 Cx) E
 | _=>False) E
section
variable{X:Cx}{F0 H0:Hp}{e o:Expr}{es:List Expr}{pos p apos:Pos}{f m:Str}{C fa:Addr}{fd:FuncData}{ps:List Str}{k:Nat}{sp:cj}{te:aH}{t:aZ}
end
def yC(K:W.Frag)(C:Addr)(f:Str)(sp:cj):Sp:=fun vs H Q E=>∃x dx rest F ds Pd Ex,vs= .ref x::rest/\H x=some (.ins C dx [])/\H dx=some (.own x)/\dx≠x/\Same F H/\F x=none/\F dx=none/\ak K F ds rest/\sp ds Pd Ex/\
 (∀d F' H' H3 v,Gr F H F' H3 ->Rep K F' d v ->Pd d ->H' =upd H3 x (.ins C dx [(f,v)]) ->Q .non H')/\∀C' H',Ex C' ->Same H H' ->E C' none H'
def Xz(C:Addr)(f:Str)(sp:cj):cj:=fun ds P E=>sp ds (fun d=>P (.obj C [f] [d])) E
section
variable{P:Program}{w:World}{K:W.Frag}{mg:Str ->Option Value}{base:Heap}
end
section
variable{X:Cx}{F0 H0:Hp}{e:Expr}{es:List Expr}{pos p:Pos}{x fl:Str}{C f:Addr}{fd:FuncData}{ps:List Str}{k:Nat}{sp:cj}{t:aZ}
end
structure Mt2 (P:Program) (w:World) (K:W.Frag) (mg:Str ->Option Value) (base:Heap) (C:Addr) (m:Str) (k:Nat) (ps:List Str) (sp:cj):Prop where
 ex:∃f fd,d7 P w K mg base (gO P w) k f fd ps (jO K sp)/\Meth K C m f/\Binds K fd ps []
structure Mk2 (P:Program) (w:World) (K:W.Frag) (mg:Str ->Option Value) (base:Heap) (x:Str) (C:Addr) (fl:Str) (k:Nat) (ps:List Str) (sp:cj):Prop where
 ex:∃f fd,d7 P w K mg base (gO P w) k f fd ps (yC K C fl sp)/\Mk K C f/\mg x=some (.ref C)/\Binds K fd ps []
def aaQ(te:aH)(tl th:uz):aH:=fun Γ P E=>te Γ (fun d Γ1=>tl Γ1 (fun l Γ2=>th Γ2 (fun u Γ3=>match d with | .tup xs=>¬(HT.sIx xs.length 0 l=0/\HT.sIx xs.length xs.length u=xs.length)/\P (.tup (cutD xs l u)) Γ3 | _=>False) E) E) E
section
variable{X:Cx}{F0 H0:Hp}{e o:Expr}{lo hi:Option Expr}{es:List Expr}{pos p p2 apos:Pos}{x m fl:Str}{C:Addr}{ps:List Str}{k:Nat}{sp:cj}{te:aH}{tl th:uz}{t:aZ}
def aaR:cj:=fun _ _ _=>False
end
mutual
def vd:D ->Prop
 | .lst _=>False
 | .exc _=>False
 | .dic _ _=>False
 | .gK _ _=>False
 | .dik _ _=>False
 | .tup xs=>nQ xs
 | .obj _ fs xs=>rJ fs=false/\nQ xs
 | _=>True
def nQ:List D ->Prop
 | []=>True
 | d::ds=>vd d/\nQ ds
end
section
variable{K:W.Frag}{F F' :Hp}{A:Addr ->Prop}
end
def XC(te:aH):aH:=fun Γ P _=>te (jm Γ) (fun d _=>vd d/\P d Γ) jY
section
variable{X:Cx}{F0 H0:Hp}{e:Expr}{te:aH}
open Classical in
end
theorem XD{K:W.Frag}{F:Hp}{d:D}{v:V}(h:Rep K F d v):∀{ds:List D} {vs:List V} (j:Nat),ak K F ds vs ->ak K F (ds.set j d) (vs.set j v)
 | [],vs,j,r=>by unfold ak at r;subst r;unfold ak;rfl
 | x::ds,vs,j,r=>by
  unfold ak at r;obtain⟨u,us,rfl,r1,r2⟩:=r;cases j with
  | zero=>exact oW h r2
  | succ j=>exact oW r1 (XD h j r2)
def yD(i:Nat)(ti te:aH):au:=fun D Γ E=>te Γ (fun d Γ1=>(∃xs,Γ1[i]?=some (.ow xs))/\ti Γ1 (fun k Γ2=>match k,Γ2[i]? with
 | .int k,some (.ow xs)=>∃j,ql xs.length k=some j/\D.nx (Γ2.set i (.ow (xs.set j d)))
 | _,_=>False) E) E
section
variable{X:Cx}{F0 H0:Hp}{x:Str}{pos pos' npos:Pos}{e k:Expr}{i:Nat}{te ti:aH}
theorem XF(hN:X.N[i]?=some x)(hv:oO X.env.scope x)(hk:QE X F0 H0 k ti)(he:QE X F0 H0 e te)(hd:(x==("__debug__" :Str))=false:=by decide)(hcd:(x==("__classdict__" :Str))=false:=by decide)
  (ha:∀v,assign (.Subscript (.Name x npos) k pos') X.env v=(do
   let ov<- holding [v] (eval (.Name x npos) X.env)
   let iv<- holding [v,ov] (eval k X.env)
   standAt pos'
   holding [v,ov,iv] (setItem ov iv v)
   release [v,ov,iv] []):=by intro _;rfl)
  (hs:swapsWithSole [.Subscript (.Name x npos) k pos'] e pos.line X.env=pure false:=by rfl) (hw:swappedStores [.Subscript (.Name x npos) k pos'] e X.env=pure none:=by rfl)
  (h1:(assignEach [.Subscript (.Name x npos) k pos'] X.env).map (·.2)= [assign (.Subscript (.Name x npos) k pos') X.env]:=by rfl):
  QS X F0 H0 (.Assign [.Subscript (.Name x npos) k pos'] e pos) (yD i ti te):=fun z E cx=>
 mK (U8 (X:=X.wsh z) (he z E cx) (z2u (X:=X.wsh z) (rD (X:=X.wsh z) (i:=i) hN hv hd hcd) (hk z E cx) zxj ha) hs hw h1) fun Dn σ H hq1=>by obtain⟨F,Γ,D2,R,h,kk⟩:=hq1;exact⟨F,Γ,_,R,h,fun d Γ1 F1 H1 v R1 s1 r1 h1=>by
  obtain⟨⟨xs,e0⟩,h2⟩:=h1;obtain⟨o,e1,a,vs,rfl,g1,g2,g3,r⟩:=R1.sl i _ e0;refine⟨.ref a,e1,F1,Γ1,_,R1,h2,fun k Γ2 F2 H2 kv R2 s2 rk q=> ?_⟩;split at q
  ·rename_i k' xs' e2;obtain⟨j,hj,q⟩:=q;obtain⟨o,e3,a',ws,rfl,w1,w2,w3,lW⟩:=R2.sl i _ e2;rw[e1] at e3;cases e3;unfold Rep at rk;subst rk;have hl:=gM lW;refine⟨a,ws,k',j,rfl,rfl,w1,by rw[<- hl];exact hj,?_⟩
   exact kk.nx _ _ _ _ (R2.wr e2 e1 (XD (r1.up s2) j lW)) (s1.trans s2) q
  ·exact q.elim⟩
end
section
variable(K:W.Frag)(F0 H0:Hp)
def upR(t:aH)(E:XW):TE:=fun σ H Q=>∃F Γ P,SR K F0 H0 F H σ Γ/\t Γ P E/\∀d Γ' F' H' v,SR K F0 H0 F' H' σ Γ' ->Same F F' ->Rep K (pK F0 F') d v ->P d Γ' ->Q v H'
def Qs(t:aZ)(E:XW):TA:=fun σ H Q=>∃F Γ P,SR K F0 H0 F H σ Γ/\t Γ P E/\∀ds Γ' F' H' vs,SR K F0 H0 F' H' σ Γ' ->Same F F' ->ak K (pK F0 F') ds vs ->P ds Γ' ->Q vs H'
end
def QR(X:Cx)(F0 H0:Hp)(e:Expr)(t:aH):Prop:=∀z E,Ctx (X.wsh z) F0 H0 E ->PE (X.wsh z) e (upR X.K F0 H0 t E)
def QRA(X:Cx)(F0 H0:Hp)(es:List Expr)(t:aZ):Prop:=∀z E,Ctx (X.wsh z) F0 H0 E ->PA (X.wsh z) es (Qs X.K F0 H0 t E)
section
variable{X:Cx}{F0 H0:Hp}{e:Expr}{es:List Expr}{pos:Pos}{te:aH}
def cNl(te:aH):aH:=fun Γ P E=>te Γ (fun d Γ1=>vd d/\P d Γ1) E
def aaS(i:Nat):aH:=fun Γ P _=>match Γ[i]? with
 | some (.ow ds)=>nQ ds/\P (.lst ds) (Γ.set i (.pu (.lst ds)))
 | _=>False
def aaT(t:aZ):aH:=fun Γ P E=>t Γ (fun ds Γ1=>nQ ds/\P (.lst ds) Γ1) E
def XH(te:aH):au:=fun D Γ E=>te Γ (fun d _=>D.rf d) E
end
def Fb(K:W.Frag)(sp:cj):Sp:=fun vs H Q E=>∃F ds P Ex,Same F H/\ak K F ds vs/\sp ds P Ex/\ (∀d v F' H',Gr F H F' H' ->Rep K (pK F F') d v ->P d ->Q v H')/\∀C H',Ex C ->Same H H' ->E C none H'
structure aaU (P:Program) (w:World) (K:W.Frag) (mg:Str ->Option Value) (base:Heap) (x:Str) (k:Nat) (ps:List Str) (sp:cj):Prop where
 ex:∃f fd,d7 P w K mg base (gO P w) k f fd ps (Fb K sp)/\mg x=some (.ref f)/\W.keepIn K (.ref f)=true/\Binds K fd ps []
section
variable{P:Program}{w:World}{K:W.Frag}{mg:Str ->Option Value}{base:Heap}
end
section
variable{X:Cx}{F0 H0:Hp}{e:Expr}{es:List Expr}{pos p:Pos}{x:Str}{f:Addr}{fd:FuncData}{ps:List Str}{k:Nat}{sp:cj}{t:aZ}{te:aH}
def Qt(te:aH):aH:=fun Γ P _=>te (jm Γ) (fun d _=>P d Γ) jY
open Classical in
end
def aaV(tf:aZ)(tb:aH):aZ:=fun Γ P E=>tf Γ (fun xs Γ1=>tb Γ1 (fun d Γ2=>match d with | .int k=>(-(2^63)<=k/\k<2^63/\xs.length*k.toNat<=sizeLine)/\P (List.replicate k.toNat xs).flatten Γ2 | _=>False) E) E
section
variable{X:Cx}{F0 H0:Hp}{a b:Expr}{pos:Pos}{tf:aZ}{tb:aH}
end
def Bc{α:Type}(lt:Nat ->Nat ->Bool):W.KasT α ->α
 | .ret a=>a
 | .ask i j k=>Bc lt (k (lt i j))
def yE{α:Type}(lt:Nat ->Nat ->Bool)(n:Nat):W.KasT α ->Bool
 | .ret _=>true
 | .ask i j k=>decide (i<n)&&(decide (j<n)&&(decide (i≠j)&&yE lt n (k (lt i j))))
theorem XJ(hc:∀i j (C:Bool ->Shared ->Prop),i<n ->j<n ->i≠j ->C (lt i j) s ->cmp i j C s):
  ∀(t:W.KasT α) (Q:α ->Shared ->Prop),yE lt n t=true ->Q (Bc lt t) s ->t.kasWp cmp Q s
 | .ret _,_,_,h=>h
 | .ask i j k,Q,ok,h=>by
  unfold yE at ok;simp only [Bool.and_eq_true,decide_eq_true_eq] at ok;exact hc i j _ ok.1 ok.2.1 ok.2.2.1 (XJ hc (k (lt i j)) Q ok.2.2.2 h)
def Qu(h:Heap)(v:Value)(i:Int):Prop:=∃(x:Addr) (o:Obj) (xs:Array Value) (m:Nat) (t:Tok),v= .ref x/\h.get? x=some o/\o.cls= .type "tuple" /\o.data= .seq xs m/\xs[0]?=some (.int i t)
inductive sH (h:Heap):List Value ->List Int ->Prop
 | nil:sH h [] []
 | cons {v i vs is}:Qu h v i ->sH h vs is ->sH h (v::vs) (i::is)
def ltI(ns:List Int)(i j:Nat):Bool:=decide (ns.getD i 0<ns.getD j 0)
def sI(ns:List Int):List Nat:=if ns.length<2 then List.range ns.length else(Bc (ltI ns) (W.kas_sort ns.length)).toList
def Fd(ns:List Int):Prop:=ns.length<2\/ (ns.length<64/\ns.Nodup/\yE (ltI ns) ns.length (W.kas_sort ns.length)=true)
section
variable{prog:Program}{w:World}{A:Around}{E:bG}{s:Shared}
theorem zto{vs:List Value}{p:Array Nat}(hp:p.size=vs.length):(List.toArray (p.toList.map fun i=>vs.getD i Value.none)).size=vs.length:=by simp [hp]
end
def XM:List D ->Option (List Int)
 | []=>some []
 | .tup (.int i::_)::r=>(XM r).map (i:: ·)
 | _::_=>none
def z4k:List D ->(List D ->Prop) ->Prop:=fun ds P=>match ds with | [.lst xs]=>∃ns,XM xs=some ns/\Fd ns/\ (∀i∈sI ns,i<ns.length)/\ (sI ns).length<=sizeLine/\P ((sI ns).map fun i=>xs.getD i .non) | _=>False
theorem XQ(h:Vals xs us):∀{is:List Nat},(∀i∈is,i<xs.length) ->Vals (is.map fun i=>xs.getD i .non) (is.map fun i=>us.getD i Value.none)
 | [],_=> .nil
 | i::is,k=>by
  have hi:=k i zW;obtain⟨u,hu,ru⟩:=h.get (zX hi);refine .cons ?_ (XQ h fun j hj=>k j (zV _ hj));show RelV (xs.getD i .non) (us.getD i Value.none);rw[List.getD_eq_getElem?_getD,List.getD_eq_getElem?_getD,List.getElem?_eq_getElem hi,hu];exact ru
theorem XR{K:W.Frag}{F:Hp}{ds:List D}{vs:List V}(h:ak K F ds vs):∀{is:List Nat},(∀i∈is,i<ds.length) ->ak K F (is.map fun i=>ds.getD i .non) (is.map fun i=>vs.getD i .non)
 | [],_=>by simp [ak]
 | i::is,k=>by
  have hi:=k i zW;obtain⟨v,hv,rv⟩:=nD h (zX hi);refine oW ?_ (XR h fun j hj=>k j (zV _ hj));show Rep K F (ds.getD i .non) (vs.getD i .non);rw[List.getD_eq_getElem?_getD,List.getD_eq_getElem?_getD,List.getElem?_eq_getElem hi,hv];exact rv
def qx(xs:List Nat):Prop:=xs.Pairwise (· < ·)
theorem Fe(h:qx xs)(hij:i<j)(hj:j<xs.length):xs[i]'(Nat.lt_trans hij hj)<xs[j]:=List.pairwise_iff_getElem.mp h i j _ hj hij
structure Jz (xs:List Nat) (j b:Nat):Prop where
 le:b<=xs.length
 lo:∀(k:Nat) (h:k<xs.length),k<b ->xs[k]<j
 hi:∀(k:Nat) (h:k<xs.length),b<=k ->j<=xs[k]
theorem Qw(hr:qx xs.toList):∀(f lo hi:Nat),lo<=hi ->hi<=xs.toList.length ->hi - lo<=f ->(∀(k:Nat) (h:k<xs.toList.length),k<lo ->xs.toList[k]<j) ->(∀(k:Nat) (h:k<xs.toList.length),hi<=k ->j<=xs.toList[k]) ->Jz xs.toList j (SetTable.below.go xs j f lo hi)
 | 0,lo,hi,h1,h2,h3,h4,h5=>by
  unfold SetTable.below.go;obtain rfl:lo=hi:=by omega
  exact⟨h2,h4,h5⟩
 | f+1,lo,hi,h1,h2,h3,h4,h5=>by
  unfold SetTable.below.go;by_cases hl:lo<hi
  ·rw[if_pos hl];have hm1:lo<=(lo+hi)/2:=by omega
   have hm2:(lo+hi)/2<hi:=by omega
   have hm:(lo+hi)/2<xs.toList.length:=by omega
   have hg:xs.getD ((lo+hi)/2) j=xs.toList[(lo+hi)/2]:=by
    have:(lo+hi)/2<xs.size:=by simpa using hm
    simp [Array.getD,this]
   dsimp only;rw[hg];by_cases hc:xs.toList[(lo+hi)/2]<j
   ·rw[if_pos hc];refine Qw hr f _ hi (by omega) h2 (by omega) (fun k hk hlt=> ?_) h5
    by_cases e:k=(lo+hi)/2
    ·subst e;exact hc
    ·exact Nat.lt_trans (Fe hr (by omega:k< (lo+hi)/2) hm) hc
   ·rw[if_neg hc];refine Qw hr f lo _ (by omega) (by omega) (by omega) h4 fun k hk hle=> ?_
    by_cases e:k=(lo+hi)/2
    ·subst e;omega
    ·have:=Fe hr (by omega:(lo+hi)/2<k) hk
     omega
  ·rw[if_neg hl];obtain rfl:lo=hi:=by omega
   exact⟨h2,h4,h5⟩
theorem X3(hr:qx xs.toList)(j:Nat):Jz xs.toList j (SetTable.below xs j):=by
 unfold SetTable.below;exact Qw hr _ 0 _ (Nat.zero_le _) (by simp) (by omega) (fun k _ h=>by omega) fun k hk h=>by simp at hk;omega
theorem z4f(h:Jz xs j b)(k:Jz xs j c):b=c:=by
 rcases Nat.lt_trichotomy b c with q | q | q
 ·have hb:b<xs.length:=zL q k.le;have:=k.lo b hb q;have:=h.hi b hb (zM _);omega
 ·exact q
 ·have hc:c<xs.length:=zL q h.le;have:=h.lo c hc q;have:=k.hi c hc (zM _);omega
theorem z1p(hr:qx xs.toList)(hn:xs[SetTable.below xs j]?≠some j):qx (SetTable.insertAt xs (SetTable.below xs j) j).toList:=by
 rw[SetTable.toList_insertAt];have hb:=X3 hr j;generalize SetTable.below xs j=b at*;have hn' :∀(h:b<xs.toList.length),xs.toList[b]≠j:=fun h e=>hn (by rw[<- Array.getElem?_toList,List.getElem?_eq_getElem h,e])
 unfold qx;rw[List.pairwise_append];refine⟨hr.take,?_,fun a ha c hc=> ?_⟩
 ·rw[List.pairwise_cons];refine⟨fun c hc=> ?_,hr.drop⟩;obtain⟨k,hk,rfl⟩:=List.mem_iff_getElem.mp hc;rw[List.length_drop] at hk;rw[List.getElem_drop];have h1:=hb.hi (b+k) (by omega) (by omega)
  by_cases e:k=0
  ·subst e;have:=hn' (by omega)
   simp only [Nat.add_zero] at h1⊢;omega
  ·have:=Fe hr (by omega:b<b+k) (by omega)
   have:=hb.hi b (by omega) (zM _)
   omega
 ·obtain⟨k,hk,rfl⟩:=List.mem_iff_getElem.mp ha;rw[List.length_take] at hk;rw[List.getElem_take];have h1:=hb.lo k (by omega) (by omega)
  rcases zT.mp hc with rfl | hc
  ·exact h1
  ·obtain⟨m,hm,rfl⟩:=List.mem_iff_getElem.mp hc;rw[List.length_drop] at hm;rw[List.getElem_drop];have:=hb.hi (b+m) (by omega) (by omega)
   omega
theorem zq4(hr:qx xs.toList)(hi:i<=xs.toList.length):SetTable.below xs (if h:0<i then xs.toList[i - 1]'(by omega)+1 else 0)=i:=by
 refine z4f (X3 hr _) ⟨hi,fun k hk hlt=> ?_,fun k hk hle=> ?_⟩
 ·rw[dif_pos (by omega)]
  by_cases e:k=i - 1
  ·subst e;exact Nat.lt_succ_self _
  ·have:=Fe hr (by omega:k<i - 1) (by omega)
   omega
 ·split
  ·rename_i h0;have:=Fe hr (by omega:i - 1<k) hk
   omega
  ·exact Nat.zero_le _
structure qy (led:Bool) (t:SetTable):Prop where
 JB:qx t.place.toList
 JC:t.dummies= #[]
 led:t.led=led
theorem zvs:qy led (.fresh 0 0 led):=⟨by simp [SetTable.fresh,qx],rfl,rfl⟩
theorem zve(n:Nat):qx (Array.range n).toList:=by
 unfold qx;rw[Array.toList_range];exact List.pairwise_lt_range
theorem JD(h:qy led t)(n:Nat):qy led (t.standIn n):=⟨zve n,rfl,h.led⟩
theorem zt3(h:qy led t):qy led {t with plain:=false}:=⟨h.JB,h.JC,h.led⟩
theorem X4(j:Nat):SetTable.has #[] j=false:=by simp [SetTable.has]
theorem X5{t:SetTable}(hd:t.dummies= #[]){j:Nat}:(t.slot j= .empty ->t.place[SetTable.below t.place j]?≠some j)/\t.slot j≠ .dummy:=by
 unfold SetTable.slot;rw[hd,X4];dsimp only;split
 ·exact⟨fun z=>(by cases z),fun z=>(by cases z)⟩
 ·rename_i q;simp only [Bool.false_eq_true,if_false];exact⟨fun _=>(by simpa using q),fun z=>(by cases z)⟩
theorem X6{t:SetTable}(hd:t.dummies= #[]){ha:Nat ->Int}{h:Int}:∀(f:Nat) (p:SetTable.Probe) {j:Nat} {dm:Option Nat},p.dummy=none ->SetTable.probe.go t ha h f p=some (.empty j dm) ->dm=none/\t.slot j= .empty
 | 0,p,j,dm,_,e=>by unfold SetTable.probe.go at e;cases e
 | f+1,p,j,dm,hp,e=>by
  have adv:(t.advance p).dummy=none:=by
   unfold SetTable.advance;split<;>exact hp
  unfold SetTable.probe.go at e;split at e
  ·rename_i q;cases e;exact⟨hp,q⟩
  ·rename_i q;exact absurd q (X5 hd).2
  ·rename_i i q;split at e
   ·cases e
   ·exact X6 hd f _ adv e
theorem z0l{led:Bool}{t:SetTable}(h:qy led t)(es:Array (Int×Value))(k:Int)(x:Value):qy led (layNew t es k x).2.1:=by
 unfold layNew;split
 ·rename_i slot wd q;unfold SetTable.freeSlot at q;split at q
  ·rename_i j dm e;cases q;obtain⟨rfl,hs⟩:=X6 h.JC _ _ rfl e;have hn:=(X5 h.JC).1 hs;dsimp only [Option.getD_none];have hp:qy led (t.put j).1:=⟨z1p h.JB hn,by show(if SetTable.has t.dummies j=true then _ else t.dummies)= #[];rw[h.JC,X4];rfl,h.led⟩
   unfold SetTable.orStandIn;split
   ·exact hp
   ·exact JD hp _
  ·cases q
 ·exact JD h _
theorem zuo(h:qy led t)(es:Array (Int×Value))(n:Nat):qy led (relayAll t es n).2.1:=by
 unfold relayAll;split
 ·rename_i t' order q;dsimp only;split
  ·unfold SetTable.relaid SetTable.laid at q;cases e:SetTable.layClean (SetTable.sizeAbove n - 1) (es.map (·.1)) with
   | none=>rw[e] at q;cases q
   | some owner=>
    rw[e] at q;cases q;refine⟨?_,rfl,h.led⟩;show qx (((List.range (SetTable.sizeAbove n - 1+1)).filterMap fun j=>(owner.getD j none).map (j, ·)).map (·.1));have sub:∀l:List Nat,((l.filterMap fun j=>(owner.getD j none).map (j, ·)).map (·.1)).Sublist l:=by
     intro l;induction l with
     | nil=>exact List.Sublist.refl _
     | cons a r ih=>
      rw[List.filterMap_cons];cases owner.getD a none with
      | none=>exact ih.cons _
      | some v=>exact ih.cons₂ _
    exact List.Pairwise.sublist (sub _) List.pairwise_lt_range
  ·exact JD h _
 ·exact JD h _
section
variable{prog:Program}{w:World}{κ:Type}[DecidableEq κ](knd:KeyKind prog w κ)(kf:Value ->κ)
structure iG (led:Bool) (o:Obj) (ks:List κ) (es:Array (Int×Value)) (ep:Nat) (t:SetTable):Prop where
 ex:o.ExactSet
 dat:o.data= .set es ep t
 el:ElemsOf knd es.toList
 fit:t.fits es.size=true
 tok:qy led t
 key:(es.toList.map fun e=>kf e.2).Perm ks
def j4(led:Bool)(h:Heap)(a:Addr)(ks:List κ):Prop:=∃o es ep t,h.get? a=some o/\iG knd kf led o ks es ep t
def jo(ks:List κ)(k:κ):List κ:=if k∈ks then ks else ks++ [k]
variable{knd kf}(hkf:∀k v,knd.is k v=true ->kf v=k)
include hkf
theorem z1m(el:ElemsOf knd es):k∈es.map (fun e=>kf e.2)↔∃e∈es,knd.is k e.2=true:=by
 rw[List.mem_map];constructor
 ·rintro⟨e,he,rfl⟩;obtain⟨⟨k',hk',_⟩,_⟩:=el e he;exact⟨e,he,by rw[hkf k' _ hk'];exact hk'⟩
 ·rintro⟨e,he,hk⟩;exact⟨e,he,hkf k _ hk⟩
variable{A:Around}{E:bG}{s:Shared}{a:Addr}{ks:List κ}{led:Bool}
theorem X7{h:Heap}{o:Obj}{es:Array (Int×Value)}{ep:Nat}{t:SetTable}(hg:h.get? a=some o)(hd:o.data= .set es ep t)(es' :Array (Int×Value))(t' :SetTable):
  (h.update a (Obj.putSet es' t')).get? a=some {o with data:= .set es' (ep+1) t'}:=by
 have z:=Heap.get?_update_self (Obj.putSet es' t') hg (by rw[putSet_of es' t' hd];rfl)
 rwa [putSet_of es' t' hd] at z
omit hkf in
theorem iG.put(S:iG knd kf led o ks es ep t)(el:ElemsOf knd es'.toList)(fit:t'.fits es'.size=true)(tok:qy led t')(key:(es'.toList.map fun e=>kf e.2).Perm ks'):
  iG knd kf led {o with data:= .set es' (ep+1) t'} ks' es' (ep+1) t' :=⟨S.ex,rfl,el,fit,tok,key⟩
theorem z39{k:κ}{x:Value}{Q:Bool ->Shared ->Prop}(hx:knd.is k x=true)(hsc:x.scannable=true)(S:j4 knd kf led s.heap a ks)(hb:ks.length+1<scanBound)
  (h:∀b h',Heap.SameBut a s.heap h' ->j4 knd kf led h' a (jo ks k) ->Q b {s with heap:=h'}):wpAny (model prog w) A (setAddHashed a x (knd.hash k)) Q E s:=by
 obtain⟨o,es,ep,t,hg,S⟩:=S;have hsz:es.size=ks.length:=by
  have:=S.key.length_eq
  simpa using this
 have hmem:=z1m hkf S.el (k:=k);unfold setAddHashed setAddHashedIn;refine wpAny_holding (vs:= [x]) (z6 (m:=setState a) (wpAny_setState_of hg S.dat S.fit ?_));dsimp only;rw[byScan_of hsc (by omega:es.size<scanBound) S.el]
 simp only [↓reduceIte];unfold setAddByScan;refine z6 (z6 (m:=rule _) (wpAny_rule (z6 (m:=setScan a x _ _ _) (wpAny_setScan_of hx hg S.dat S.fit S.el ?_))));cases hr:List.findIdx? (fun e=>knd.is k e.2) es.toList with
 | some j=>
  dsimp only;obtain⟨hj,hpj,_⟩:=List.findIdx?_eq_some_iff_getElem.mp hr;have hk:k∈ks:=S.key.mem_iff.mp (hmem.mpr ⟨_,yX hj,hpj⟩);refine z7 (α:=_) (z7 (α:=_) ?_);have z:=h false s.heap (Heap.SameBut.refl a s.heap) ⟨o,es,ep,t,hg,by unfold jo;rw[if_pos hk];exact S⟩
  exact z
 | none=>
  dsimp only;have hk:k∉ks:=fun q=>by
   obtain⟨e,he,hp⟩:=hmem.mp (S.key.mem_iff.mpr q);have:=List.findIdx?_eq_none_iff.mp hr e he;rw[hp] at this;cases this
  have hperm:=layNew_perm t es (knd.hash k) x;have hfits:=layNew_fits t es (knd.hash k) x;have sJ:=z0l S.tok es (knd.hash k) x;generalize layNew t es (knd.hash k) x=lay at hperm hfits sJ⊢;obtain⟨es1,t1,wd,gave⟩:=lay;dsimp only at hperm hfits sJ⊢;rw[Array.toList_push] at hperm;have el1:ElemsOf knd es1.toList:=(S.el.push hx hsc).perm hperm;have key1:(es1.toList.map fun e=>kf e.2).Perm (jo ks k):=by
   unfold jo;rw[if_neg hk];refine(hperm.map _).trans ?_;rw[List.map_append];refine List.Perm.append S.key ?_;show [kf x].Perm [k];rw[hkf k x hx]
  have sz1:es1.size=es.size+1:=by
   have:=hperm.length_eq
   simpa using this
  have Fg:es1.size<=sizeLine:=fits_of_scanBound (by omega)
  have gw:∀(b:Bool) {s₁:Shared} {Q' :Unit ->Shared ->Prop},Q' () s₁ ->wpAny (model prog w) A (match b with | true=>rule "set.scan.the-table-gave-way" | false=>pure ()) Q' E s₁:=
   fun b s₁ Q' q=>by
    cases b with
    | true=>exact wpAny_rule q
    | false=>exact z7 (α:=_) q
  have tail:∀t2:SetTable,t2.fits es1.size=true ->qy led t2 ->wpAny (model prog w) A (do
    storeSet a es1 t2
    if (!wd&&t2.tooFull)=true then do
      (match (relayAll t2 es1 (SetTable.grown es1.size)).2.2 with | true=>rule "set.scan.the-table-gave-way" | false=>pure ())
      storeSet a (relayAll t2 es1 (SetTable.grown es1.size)).1 (relayAll t2 es1 (SetTable.grown es1.size)).2.1
      pure (some true)
     else pure (some true)) (fun r s' =>wpAny (model prog w) A (match r with | some added=>pure added | none=>setAddHashedIn a x (knd.hash k) 99999) Q E s') E s:=by
   intro t2 f2 k2;refine z6 (m:=storeSet a es1 t2) (wpAny_storeSet_of hg S.dat ?_ Fg);have g1:=X7 (hkf:=hkf) hg S.dat es1 t2;have S1:=S.put (ks' :=jo ks k) el1 f2 k2 key1;have X8:=Heap.SameBut.update s.heap a (Obj.putSet es1 t2);split
   ·have hp2:=relayAll_perm t2 es1 (SetTable.grown es1.size);have hf2:=relayAll_fits t2 es1 (SetTable.grown es1.size);have Qx:=zuo k2 es1 (SetTable.grown es1.size);generalize relayAll t2 es1 (SetTable.grown es1.size)=rl at hp2 hf2 Qx⊢;obtain⟨es2,t3,gave2⟩:=rl;dsimp only at hp2 hf2 Qx⊢;have sz2:es2.size=es1.size:=by
     have:=hp2.length_eq
     simpa using this
    refine z6 (gw gave2 ?_);refine z6 (m:=storeSet a es2 t3) (wpAny_storeSet_of g1 rfl ?_ (by omega))
    have S2:=S1.put (ks' :=jo ks k) (el1.perm hp2) hf2 Qx ((hp2.map _).trans key1);refine z7 (α:=_) (z7 (α:=_) ?_);exact h true _ (X8.trans (Heap.SameBut.update _ a _)) ⟨_,_,_,_,X7 (hkf:=hkf) g1 rfl es2 t3,S2⟩
   ·exact z7 (α:=_) (z7 (α:=_) (h true _ X8 ⟨_,_,_,_,g1,S1⟩))
  refine z6 (gw gave ?_);split
  ·refine z6 ?_;rw[hashByValue_scannable 8 hsc];refine z7 (α:=_) ?_;refine tail _ ?_ ?_
   ·split
    ·exact hfits
    ·exact SetTable.fits_plain_off hfits
   ·split
    ·exact sJ
    ·exact zt3 sJ
  ·refine z6 (z7 (α:=_) ?_);simp only [↓reduceIte];exact tail _ hfits sJ
end
abbrev fX(w:World):Bool:= !(w.params.followText "set-order")
abbrev vf(w:World):Obj:={cls:= .type "set",dict:=none,data:= .set #[] 0 (.fresh 0 0 (fX w))}
def fJ{κ:Type}[DecidableEq κ](val:Nat ->κ):Nat ->List κ
 | 0=> []
 | i+1=>jo (fJ val i) (val i)
theorem Yb [DecidableEq κ](val:Nat ->κ):∀i,(fJ val i).length<=i
 | 0=>zM _
 | i+1=>by
  have ih:=Yb val i;show(jo (fJ val i) (val i)).length<=i+1;unfold jo;split
  ·omega
  ·rw[List.length_append,List.length_singleton];omega
theorem Qy [DecidableEq κ](val:Nat ->κ):∀{i},k∈fJ val i↔∃j,j<i/\val j=k
 | 0=>by simp [fJ]
 | i+1=>by
  have ih:=Qy val (k:=k) (i:=i);have e:k∈fJ val (i+1)↔k∈fJ val i\/k=val i:=by
   show k∈jo (fJ val i) (val i)↔_;unfold jo;split
   ·rename_i q;constructor
    ·exact .inl
    ·rintro(z | rfl)
     ·exact z
     ·exact q
   ·rw[List.mem_append,List.mem_singleton]
  rw[e,ih];constructor
  ·rintro(⟨j,hj,rfl⟩ | rfl)
   ·exact⟨j,by omega,rfl⟩
   ·exact⟨i,by omega,rfl⟩
  ·rintro⟨j,hj,rfl⟩;by_cases q:j=i
   ·subst q;exact .inr rfl
   ·exact .inl ⟨j,by omega,rfl⟩
theorem Yc [DecidableEq κ](val:Nat ->κ):∀i,(fJ val i).Nodup
 | 0=>List.nodup_nil
 | i+1=>by
  have ih:=Yc val i;show(jo (fJ val i) (val i)).Nodup;unfold jo;split
  ·exact ih
  ·rename_i q;rw[List.nodup_append];refine⟨ih,by simp,fun a ha b hb=> ?_⟩
   rw[List.mem_singleton] at hb;subst hb;exact fun z=>q (z ▸ ha)
theorem zwb{prog:Program}{w:World}{κ:Type}[DecidableEq κ]{knd:KeyKind prog w κ}{kf:Value ->κ}:iG knd kf (fX w) (vf w) [] #[] 0 (.fresh 0 0 (fX w)):=
 ⟨⟨rfl,rfl,rfl⟩,rfl,fun e he=>by simp at he,by rfl,zvs,by simp⟩
section
variable{prog:Program}{w:World}{κ:Type}[DecidableEq κ]{knd:KeyKind prog w κ}{kf:Value ->κ}(hkf:∀k v,knd.is k v=true ->kf v=k)
theorem j4.stay(S:j4 knd kf led h a ks)(e:∀o,h.get? a=some o ->h'.get? a=some o):j4 knd kf led h' a ks:=by
 obtain⟨o,es,ep,t,hg,S⟩:=S;exact⟨o,es,ep,t,e o hg,S⟩
include hkf
theorem zwf{A:Around}{R:Result ->Shared ->Prop}{I:Addr}{fp wr:List Addr}{G:Array GenState ->Array GenState ->Prop}{n:Nat}{P:Nat ->Value ->Prop}{St:Nat ->Shared ->Prop}
  (W:WalksS prog w A.in1 I fp wr G n P St) {S:Addr} (hS:S∉fp) {val:Nat ->κ} (hv:∀i v,P i v ->knd.is (val i) v=true/\v.scannable=true) (hb:n+1<scanBound) {led:Bool}:
  ∀(j i:Nat) (s:Shared),i+j=n ->St i s ->j4 knd kf led s.heap S (fJ val i) ->
   (∀s',Moved (S::wr) G s s' ->j4 knd kf led s'.heap S (fJ val n) ->R (.ok (.ret .none)) s') ->codeAny (model prog w) A (.builtin "set.update.loop" ⟨[.ref S,.ref I],[]⟩) R s:=by
 have hw:S∉wr:=fun q=>hS (W.sub _ q);have grow:∀b∈wr,b∈S::wr:=fun b q=>zV _ q;intro j;induction j with
 | zero=>
  intro i s hij st hs hR;obtain rfl:i=n:=by omega
  refine codeAny_builtin PyProof.Rows.F.entry_set_update_loop ?_;rw[Around.under_plainId PyProof.Rows.F.plain_set_update_loop _];show wpAny _ _ (pyNext (.ref I)>>=_) _ _ _;refine z6 (m:=pyNext (.ref I)) (W.done s _ _ st fun s' hm=> ?_);show wpAny _ _ (ret Value.none) _ _ _;exact z7 (α:=_) (hR s' (hm.mono grow) (hs.stay fun o e=>hm.heap S o hw e))
 | succ j ih=>
  intro i s hij st hs hR;refine codeAny_builtin PyProof.Rows.F.entry_set_update_loop ?_;rw[Around.under_plainId PyProof.Rows.F.plain_set_update_loop _];show wpAny _ _ (pyNext (.ref I)>>=_) _ _ _;refine z6 (m:=pyNext (.ref I)) (W.item i s _ _ (by omega) st fun v s1 hP st1 hm=> ?_)
  obtain⟨hk,hc⟩:=hv i v hP;have hs1:=hs.stay (h' :=s1.heap) fun o e=>hm.heap S o hw e;show wpAny _ _ (holding [v] (setAdd S v)>>=_) _ _ _;refine z6 (m:=holding [v] (setAdd S v)) (wpAny_holding (vs:= [v]) ?_);unfold setAdd;refine wpAny_holding (vs:= [v]) (z6 (m:=pyHash v) (knd.pyHash hk ?_));refine z39 hkf (s:={s1 with toks:=s1.toks+1}) hk hc hs1 (by have:=Yb val i;omega) fun _ h2 sb S2=> ?_
  refine z7 (α:=_) ⟨plainId_quiet PyProof.Rows.F.plain_set_update_loop _,ih (i+1) _ (by omega) (W.frame _ s1 h2 _ st1 (Nat.le_succ _) fun b hb o e=> ?_) S2 fun s3 hm3 S3=> ?_⟩
  ·exact(sb.2 b fun z=>hS (z ▸ hb)).trans e
  ·refine hR s3 (Moved.trans W.gtrans ((hm.mono grow).then_heap (Nat.le_succ _) fun b o hb e=> ?_) hm3) S3;exact(sb.2 b fun z=>hb (z ▸ zW)).trans e
end
section
variable{prog:Program}{w:World}{A:Around}{E:bG}{s:Shared}
theorem znq(v:Value)(h:Q₁ (.ref s.heap.objs.size) {s with heap:=s.heap.push (vf w)}):
  codeAny (model prog w) A (.call (.builtin "set.__new__") ⟨[.type "set",v],[]⟩) (wants Q₁ E) s:=by
 refine codeAny_of_tree ?_;show wpAny _ A.in1 (checkBuiltinCall "set.__new__" ⟨[.type "set",v],[]⟩>>=fun _=>again (.builtin "set.__new__" ⟨[.type "set",v],[]⟩)) _ _ s;refine z6 (wpAny_of_eq (PySem.F.newCall_set_1 v) (z7 (α:=_) ⟨plainId_quiet PySem.F.plain_set_new _,codeAny_builtin PySem.F.entry_set_new ?_⟩));rw[Around.under_plainId PySem.F.plain_set_new _];unfold Builtin.«set.__new__» Builtin.Frozenset.newClass;have hsub:=sub_set_self;obtain⟨hp,g,d,tk,os⟩:=s;dsimp only
 wp_walk
 refine wpAny_askSetting (z7 (α:=_) ?_);dsimp only;simp only [newObj];exact z6 (wpAny_alloc (z7 (α:=_) (z7 (α:=_) h)))
end
section
variable{prog:Program}{w:World}{κ:Type}[DecidableEq κ]{knd:KeyKind prog w κ}{kf:Value ->κ}(hkf:∀k v,knd.is k v=true ->kf v=k){A:Around}{E:bG}{s:Shared}
include hkf
set_option maxHeartbeats 3200000 in
theorem zo1{l:Addr}{items:Array Value}{val:Nat ->κ}{Q:bG}(hh:A.handled=none)(hl:s.heap.IsList l items)(hv:∀i v,items[i]?=some v ->knd.is (val i) v=true/\v.scannable=true)(hb:items.size+1<scanBound)
  (h:∀(h' :Heap) (tk:Nat),j4 knd kf (fX w) h' s.heap.objs.size (fJ val items.size) ->(∀b o,s.heap.get? b=some o ->h'.get? b=some o) ->Q (.ref s.heap.objs.size) {s with heap:=h',toks:=tk}):
  wpAny (model prog w) A (call (.type "set") [.ref l]) Q E s:=by
 obtain⟨c,tl,hmro⟩:=PySem.F.called_set.mro;have hmade:=PySem.F.called_set.made;have hsub:=PySem.F.called_set.sub;refine wpAny_call (codeAny_of_tree ?_);show wpAny _ _ (callAny (.type "set") _) _ _ _;refine z7 (α:=_) ⟨Code.quiet_builtin _ (by decide+kernel),codeAny_builtin PySem.F.entry_type_call ?_⟩
 rw[Around.under_plain (weight_type_call_type "set" [.ref l] []) rfl];have q1:=PySem.F.called_set.notType;have q2:=PySem.F.called_set.canCreate;have q3:=PySem.F.typeCall_set_1 (.ref l)
 (repeat (any_goals (first | assumption | wp_step)));skip
 refine codeAny_mono (znq (.ref l) (E:=E) (Q₁:=fun obj s₁=>obj= .ref s.heap.objs.size/\s₁={s with heap:=s.heap.push (vf w)}) ⟨rfl,rfl⟩) fun r s₁ hr=> ?_;cases r with
 | error e=>exact hr
 | ok fl=>
  cases fl with
  | ret obj=>
   obtain⟨rfl,rfl⟩:=hr;have hS:(s.heap.push (vf w)).get? s.heap.objs.size=some (vf w):=zY _ rfl;have hT:Shared.TypeIs {s with heap:=s.heap.push (vf w)} (.ref s.heap.objs.size) "set" :=⟨_,hS,rfl⟩;have q4:=PySem.F.called_set.init.lookup;have q5:=PySem.F.called_set.init.bind (.ref s.heap.objs.size)
   (repeat (any_goals (first | assumption | wp_step)));skip
   refine codeAny_mono (codeAny_call_builtin (R:=wants (fun r s₂=>r= .none/\∃h' tk,s₂={s with heap:=h',toks:=tk}/\j4 knd kf (fX w) h' s.heap.objs.size (fJ val items.size)/\
     ∀b o,s.heap.get? b=some o ->h'.get? b=some o) E) PySem.F.called_set.init.plain PySem.F.entry_set_init (check_set_init_1 hT ?_)) fun r₂ s₂ hr₂=> ?_
   ·obtain⟨ol,hol,hcl,nl,hdl⟩:=hl;obtain⟨oc,od,ot,os⟩:=ol;simp only at hcl hdl;subst hcl;subst hdl;have hol' :(s.heap.push (vf w)).get? l=some {cls:= .type "list",dict:=od,data:= .seq items nl,slots:=os}:=zZ _ hol;have q6:=PySem.F.sub_list_set;have q7:=PySem.F.sub_list_frozenset;have q8:(Value.type "list" ==Value.type "dict")=false:=by decide
    have hl1:(s.heap.push (vf w)).IsList l items:=⟨_,hol',rfl,nl,rfl⟩;unfold Builtin.«set.__init__» noKeywords Builtin.Frozenset.updateFrom;generalize hPI:pyIter=PI
    wp_walk
    subst hPI;refine wpAny_pyIter_list hl1 (z6 (wpAny_runValue ?_));have hlS:l<s.heap.objs.size:=zG hol;have hh3:A.in1.in1.in1.handled=none:=by simp [hh]
    have Qz:(s.heap.push (vf w)).objs.size=s.heap.objs.size+1:=Heap.size_push ..;refine zwf hkf (led:=fX w) ((Walks.list hh3 _ l (by rw[Qz];exact zJ (Nat.lt_succ_of_lt hlS)) items).toS) (S:=s.heap.objs.size) ?_ hv hb items.size 0 _ (Nat.zero_add _)
     ⟨⟨_,zY _ rfl,rfl,rfl⟩,hl1.push _⟩ ⟨_,_,_,_,zZ _ hS,zwb⟩ fun s' hm hS' => ?_
    ·rw[Qz];simp only [List.mem_cons,List.not_mem_nil,or_false,not_or];exact⟨zJ (Nat.lt_succ_self _),Nat.ne_of_gt hlS⟩
    ·obtain⟨h',g',d',tk',os'⟩:=s';obtain rfl:g' =s.gens:=hm.gens;obtain rfl:d' =s.drawn:=hm.drawn;obtain rfl:os' =s.os:=hm.os;refine z7 (α:=_) ?_;show wpAny _ _ (ret Value.none) _ _ _;refine z7 (α:=_) ⟨rfl,h',tk',rfl,hS',fun b o e=> ?_⟩;have hlt:=zG e;refine hm.heap b o ?_ (zZ _ (zZ _ e));rw[Qz];simp only [List.mem_cons,List.not_mem_nil,or_false,not_or];exact⟨zJ hlt,zJ (Nat.lt_succ_of_lt hlt)⟩
   ·cases r₂ with
    | error e=>exact hr₂
    | ok fl₂=>
     cases fl₂ with
     | ret r=>
      obtain⟨rfl,h',tk,rfl,hS',hk'⟩:=hr₂
      (repeat (any_goals (first | assumption | wp_step)));skip
      exact h _ _ hS' hk'
     | _=>exact hr₂.elim
  | _=>exact hr.elim
end
theorem jq:PySem.Slot "set_iterator" "__next__" "set_iterator.__next__" := .of (owner:= "set_iterator") (n:= "__next__") (by rw[typeLookup_type,builtinLookup_eq_fast];kernel_rfl) (by decide+kernel) (by decide+kernel) (by decide+kernel) (by first | exact .inl (by decide+kernel) | exact .inr (by decide+kernel)) (by rw[isSubtype_type];kernel_rfl)
theorem z27:entryFor table "set_iterator.__next__" =some Builtin.«set_iterator.__next__»:=entryFor_of_tree (by kernel_rfl)
theorem z3c(v:Value):argsOk "set_iterator.__next__" ⟨[v],[]⟩:=by unfold argsOk;kernel_rfl
theorem zwk:entryFor table "set.__iter__" =some Builtin.«frozenset.__iter__»:=entryFor_alias (id' := "frozenset.__iter__") (by kernel_rfl) rfl (by decide+kernel) (by kernel_rfl)
def oN(h:Heap)(I:Addr)(fst:Value)(i:Nat)(S:Addr)(n ep:Nat):Prop:=∃o,h.get? I=some o/\o.cls= .type "set_iterator" /\o.data= .fields #[fst,.int i 0,.ref S,.int n 0,.int ep 0]
theorem oN.ty{s:Shared}{I S:Addr}{fst:Value}{i n ep:Nat}(x:oN s.heap I fst i S n ep):s.TypeIs (.ref I) "set_iterator" :=let ⟨o,ho,hc,_⟩:=x;⟨o,ho,hc⟩
theorem oN.at(x:oN h I fst i S n ep)(e:∀o,h.get? I=some o ->h'.get? I=some o):oN h' I fst i S n ep:=let ⟨o,ho,r⟩:=x;⟨o,e o ho,r⟩
theorem Yd(hi:i<xs.length):(xs[i]::xs.eraseIdx i).Perm xs:=by
 rw[List.eraseIdx_eq_take_drop_succ];refine List.perm_middle.symm.trans ?_;rw[<- List.drop_eq_getElem_cons hi,List.take_append_drop]
section
variable{prog:Program}{w:World}{A:Around}{E:bG}{s:Shared}
theorem zt4(hn:n≠0)(h:∀i d,i<n ->Q i {s with drawn:=d}):wpAny (model prog w) A (choose src n) Q E s:=fun Γ p _=>by
 unfold choose;rw[Sem.wp_choose];exact⟨hn,h _ _ (Nat.mod_lt _ (Nat.pos_of_ne_zero hn))⟩
theorem zlp(n:Nat):∀(xs:List α) {s:Shared} {Q:List α ->Shared ->Prop},xs.length=n ->(∀ys d,ys.Perm xs ->Q ys {s with drawn:=d}) ->wpAny (model prog w) A (drawOrder n xs) Q E s:=by
 induction n with
 | zero=>
  intro xs s Q hn h;have:xs= []:=List.length_eq_zero_iff.mp hn;subst this;unfold drawOrder;exact z7 (α:=_) (h [] s.drawn (.refl _))
 | succ n ih=>
  intro xs s Q hn h;cases xs with
  | nil=>cases hn
  | cons x xs=>
  unfold drawOrder;refine z6 (m:=choose _ _) (zt4 (by simp) fun i d hi=> ?_)
  rw[List.getElem?_eq_getElem hi];dsimp only;refine z6 (ih ((x::xs).eraseIdx i) ?_ fun ys d' hp=>z7 (α:=_) (h _ d' ?_))
  ·rw[List.length_eraseIdx_of_lt hi];omega
  ·refine(hp.cons _).trans ?_;exact Yd hi
section
variable{S I:Addr}{fst:Value}{i n ep:Nat}{o:Obj}{es:Array (Int×Value)}{t:SetTable}
theorem QB(hh:A.handled=none)(hQ:∀h',Heap.ExtBut I h0 h' ->Q none {s with heap:=h'})(hk:Heap.ExtBut I h0 s.heap):
  wpAny (model prog w) A.in1 (newExc (.type "StopIteration") []>>=fun e=>(raiseNew e:Sem PySem.Fin)) (fun _ _=>False)
   (fun e s' =>wpAny (model prog w) A (do if<- isInstance e (.type "StopIteration") then pure (none:Option Value) else throw e) Q E s') s:=by
 refine z6 ?_;simp only [newExc,newTuple];refine z6 (wpAny_newObj_type ?_ (by size_fits))
 refine z6 (m:=firstArgMember _ _) (wpAny_of_eq (a:=Value.none) (by first | rfl | (simp only [firstArgMember];rfl)) ?_)
 refine wpAny_newObj_type ?_ (by size_fits)
 simp only [raiseNew];refine z6 (m:=_) (wpAny_handled ?_);rw[show A.in1.handled=none by simp [hh]]
 refine z6 (z7 (α:=_) (wpAny_throw (α:=_) ?_));refine z6 (m:=isInstance _ _) (wpAny_isInstance (T:= "StopIteration") (b:=true) ⟨_,zY _ rfl,rfl⟩ isSubtype_stop ?_);exact z7 (α:=_) (hQ _ ((hk.push _).push _))
end
end
section
variable{prog:Program}{w:World}{κ:Type}[DecidableEq κ]{knd:KeyKind prog w κ}{kf:Value ->κ}{A:Around}{E:bG}{s:Shared}{S I:Addr}{fst:Value}{i n ep:Nat}{o:Obj}{es:Array (Int×Value)}{t:SetTable}{led:Bool}{ks:List κ}
theorem Bd(hit:oN s.heap I fst i S n ep)(hg:s.heap.get? S=some o)(O:iG knd kf led o ks es ep t)(hn:es.size=n)
  (h:wpAny (model prog w) A.in1 (if let .int slot _:=fst then do
    match<- setNext S slot.toNat i ep with
    | some (x,next)=>
     setField (.ref I) 0 (rawInt next)
     setField (.ref I) 1 (rawInt ((i:Int)+1))
     ret x
    | none=>setField (.ref I) 2 .none;raiseNew (<- newExc (.type "StopIteration") [])
   else do
    let some places<- seqItems? fst | unsupported "internal:set_iterator"
    match places[i]? with
    | some (.int place _)=>
     let x<- setNextDrawn S place.toNat ep
     setField (.ref I) 1 (rawInt ((i:Int)+1))
     ret x
    | some _=>unsupported "internal:set_iterator"
    | none=>setField (.ref I) 0 (rawInt 0);setField (.ref I) 2 .none;raiseNew (<- newExc (.type "StopIteration") []))
   (fun fin s' =>∃r,fin= .done (.ret r)/\Q (some r) s')
   (fun e s' =>wpAny (model prog w) A (do if<- isInstance e (.type "StopIteration") then pure (none:Option Value) else throw e) Q E s') s):
  wpAny (model prog w) A (pyNext (.ref I)) Q E s:=by
 obtain⟨oi,ho,hc,hd⟩:=id hit;unfold pyNext;refine z6 (m:=_) (wpAny_attempt (wpAny_callSpecial?_slot (name:=Str.ofString "__next__") hit.ty jq (wpAny_call_entry jq hit.ty z27 ?_ (z3c _))));unfold Builtin.«set_iterator.__next__»;refine z6 (m:=slotArgs _ _ _) (z7 (α:=_) ?_);refine z6 (m:=fieldsOf _) (wpAny_fieldsOf ho hd ?_);dsimp only;refine z6 (m:=setEntries S) (wpAny_setEntries_of hg O.dat O.fit ?_);rw[if_neg (by rw[hn];simp)]
 refine wpAny_mono h (fun fin s' ⟨r,hr,hq⟩=>⟨r,hr,z7 (α:=_) hq⟩) fun e s' he=>he
theorem JF(h:Q (w.params.followText "set-order") s):wpAny (model prog w) A setsByText Q E s:=by
 unfold setsByText;exact z6 (m:=ask) (wpAny_askSetting (z7 (α:=_) h))
theorem Ye(hbt:w.params.followText "set-order" =false)(hg:s.heap.get? S=some o)(O:iG knd kf true o ks es ep t)(hdr:(!t.plain&&decide (es.size>1))=false)
  (h:Q (match es[SetTable.below t.place slot]?,t.place[SetTable.below t.place slot]? with | some (_,x),some j=>some (x,j+1) | _,_=>none) s):wpAny (model prog w) A (setNext S slot given e0) Q E s:=by
 unfold setNext;refine z6 (m:=setState S) (wpAny_setState_of hg O.dat O.fit ?_);dsimp only;refine z6 (m:=setsByText) (JF ?_);rw[hbt,if_neg Bool.false_ne_true,if_neg (fun z=>by have z' :(!t.plain&&decide (es.size>1))=true:=z;rw[hdr] at z';cases z')]
 refine z6 (m:=_) ?_;show wpAny _ _ (if (!t.led&& !es.isEmpty)=true then _ else pure PUnit.unit) _ _ _;rw[O.tok.led,if_neg (by simp)]
 exact z7 (α:=_) (z7 (α:=_) h)
theorem Yg(hbt:w.params.followText "set-order" =true)(hg:s.heap.get? S=some o)(O:iG knd kf led o ks es ep t)
  (h:Q ((pickOrder (w.params.setOrder S ep) es)[given]?.map fun e=>(e.2,slot)) s):wpAny (model prog w) A (setNext S slot given ep) Q E s:=by
 unfold setNext;refine z6 (m:=setState S) (wpAny_setState_of hg O.dat O.fit ?_);dsimp only;refine z6 (m:=setsByText) (JF ?_);rw[hbt,if_pos rfl,if_neg (by simp)]
 refine z6 (m:=setWalk S) ?_;unfold setWalk;refine z6 (m:=setState S) (wpAny_setState_of hg O.dat O.fit ?_);dsimp only;refine z6 (m:=setsByText) (JF ?_);rw[hbt,if_pos rfl];exact z6 (m:=ask) (wpAny_askSetting (z7 (α:=_) (z7 (α:=_) h)))
theorem zsk(hg:s.heap.get? S=some o)(O:iG knd kf led o ks es ep t)(hx:es[p]?=some x)(h:Q x.2 s):wpAny (model prog w) A (setNextDrawn S p ep) Q E s:=by
 unfold setNextDrawn;refine z6 (m:=setState S) (wpAny_setState_of hg O.dat O.fit ?_);dsimp only;rw[if_neg (by simp),hx]
 exact z7 (α:=_) h
theorem zn0(hg:s.heap.get? S=some o)(O:iG knd kf led o ks es ep t)(h:Q (!w.params.followText "set-order" &&(!t.plain&&decide (es.size>1))) s):wpAny (model prog w) A (setDrawn S) Q E s:=by
 unfold setDrawn;refine z6 (m:=setState S) (wpAny_setState_of hg O.dat O.fit ?_);dsimp only;refine z6 (m:=setsByText) (JF ?_);exact z7 (α:=_) h
theorem Yh(nx:Nat ->Nat):∀(f k:Nat) (l:List α) (out:Array α),l.length=f ->(pickOrder.go nx f k l out).toList.Perm (out.toList++l)
 | 0,k,l,out,hl=>by
  unfold pickOrder.go;rw[List.length_eq_zero_iff.mp hl];simp
 | f+1,k,l,out,hl=>by
  unfold pickOrder.go;have hi:nx k % l.length<l.length:=Nat.mod_lt _ (by omega)
  rw[List.getElem?_eq_getElem hi];dsimp only;refine(Yh nx f (k+1) (l.eraseIdx (nx k % l.length)) _ (by rw[List.length_eraseIdx_of_lt hi];omega)).trans ?_
  rw[Array.toList_push,List.append_assoc];exact List.Perm.append_left _ (Yd hi)
theorem QC(nx:Nat ->Nat)(xs:Array α):(pickOrder nx xs).toList.Perm xs.toList:=by
 unfold pickOrder;exact Yh nx _ 0 _ #[] (by simp)
end
theorem Yi:PySem.Slot "set_iterator" "__iter__" "set_iterator.__iter__" := .of (owner:= "set_iterator") (n:= "__iter__") (by rw[typeLookup_type,builtinLookup_eq_fast];kernel_rfl) (by decide+kernel) (by decide+kernel) (by decide+kernel) (by first | exact .inl (by decide+kernel) | exact .inr (by decide+kernel)) (by rw[isSubtype_type];kernel_rfl)
theorem z4c:entryFor table "set_iterator.__iter__" =some Builtin.«dict_keyiterator.__iter__»:=entryFor_alias (id' := "dict_keyiterator.__iter__") (by kernel_rfl) rfl (by decide+kernel) (by kernel_rfl)
theorem z2o(v:Value):argsOk "set_iterator.__iter__" ⟨[v],[]⟩:=by unfold argsOk;kernel_rfl
theorem oN.yF(x:oN h I fst i S n ep)(v:Value):oN (h.update I (Obj.mapFields (·.setIfInBounds 0 v))) I v i S n ep:=by
 obtain⟨o,ho,hc,hd⟩:=x;exact⟨_,Heap.get?_update_self _ ho (Obj.isFreed_of_fields (Obj.data_mapFields hd _)),(Obj.cls_mapFields ..).trans hc,by rw[Obj.data_mapFields hd];simp⟩
theorem oN.yG(x:oN h I fst i S n ep):oN (h.update I (Obj.mapFields (·.setIfInBounds 1 (rawInt ((i:Int)+1))))) I fst (i+1) S n ep:=by
 obtain⟨o,ho,hc,hd⟩:=x;exact⟨_,Heap.get?_update_self _ ho (Obj.isFreed_of_fields (Obj.data_mapFields hd _)),(Obj.cls_mapFields ..).trans hc,by rw[Obj.data_mapFields hd];simp [rawInt]⟩
section
variable{prog:Program}{w:World}{κ:Type}[DecidableEq κ]{knd:KeyKind prog w κ}{kf:Value ->κ}
structure Steps (prog:Program) (w:World) (A:Around) (I S:Addr) (n ep:Nat) (o:Obj) (ex:bw) (vals:List Value) (fst:Nat ->Value):Prop where
 item:∀i (s:Shared) (Q:Option Value ->Shared ->Prop) (E:bG),i<n ->oN s.heap I (fst i) i S n ep ->s.heap.get? S=some o ->(∀p∈ex,s.heap.get? p.1=some p.2) ->
  (∀v h',vals[i]?=some v ->oN h' I (fst (i+1)) (i+1) S n ep ->Heap.SameBut I s.heap h' ->Q (some v) {s with heap:=h'}) ->wpAny (model prog w) A (pyNext (.ref I)) Q E s
 done:∀(s:Shared) (Q:Option Value ->Shared ->Prop) (E:bG),oN s.heap I (fst n) n S n ep ->s.heap.get? S=some o ->(∀p∈ex,s.heap.get? p.1=some p.2) ->
  (∀h',Heap.ExtBut I s.heap h' ->Q none {s with heap:=h'}) ->wpAny (model prog w) A (pyNext (.ref I)) Q E s
theorem ztz(T:Steps prog w A I S n ep o ex vals fst)(hS:S≠I)(hX:∀p∈ex,p.1≠I):
  Walks prog w A I (I::S::ex.map (·.1)) [I] n (fun i v=>vals[i]?=some v) (fun i h=>oN h I (fst i) i S n ep/\h.get? S=some o/\∀p∈ex,h.get? p.1=some p.2) where
 sub:=fun b hb=>by simp at hb;simp [hb]
 frame:=fun i h h' st hk=>⟨st.1.at fun o e=>hk I (by simp) o e,hk S (by simp) o st.2.1,fun p hp=>hk p.1 (by simp only [List.mem_cons,List.mem_map];exact .inr (.inr ⟨p,hp,rfl⟩)) p.2 (st.2.2 p hp)⟩
 item:=fun i s Q E hi st hQ=>T.item i s Q E hi st.1 st.2.1 st.2.2 fun v h' hv st' sb=>hQ v h' s.toks hv ⟨st',(sb.2 S hS).trans st.2.1,fun p hp=>(sb.2 p.1 (hX p hp)).trans (st.2.2 p hp)⟩ fun b o hb e=>(sb.2 b fun z=>hb (by simp [z])).trans e
 done:=fun s Q E st hQ=>T.done s Q E st.1 st.2.1 st.2.2 fun h' eb=>hQ h' s.toks fun b o hb e=>eb b o (fun z=>hb (by simp [z])) e
 self:=fun i s Q E st hQ=>by
  refine wpAny_pyIter_slot st.1.ty Yi (wpAny_call_entry Yi st.1.ty z4c ?_ (z2o _));show wpAny _ _ (ret (.ref I)) _ _ _;exact z7 (α:=_) ⟨_,rfl,"set_iterator",_,st.1.ty,jq.lookup,hQ⟩
variable{A:Around}{I S:Addr}{n ep:Nat}{o:Obj}{es:Array (Int×Value)}{t:SetTable}{ks:List κ}
def ig(t:SetTable)(i:Nat):Nat:=if h:0<i/\i<=t.place.toList.length then t.place.toList[i - 1]'(by omega)+1 else 0
theorem Yj(hr:qx t.place.toList)(hi:i<=t.place.toList.length):SetTable.below t.place (ig t i)=i:=by
 have:=zq4 hr hi;unfold ig;by_cases h0:0<i
 ·rw[dif_pos ⟨h0,hi⟩];rw[dif_pos h0] at this;exact this
 ·rw[dif_neg (fun z=>h0 z.1)];rw[dif_neg h0] at this;exact this
theorem Yk(h:t.fits n=true):t.place.toList.length=n:=by
 simp only [SetTable.fits,Bool.and_eq_true,beq_iff_eq] at h
 simpa using h.1
theorem zzu(hh:A.handled=none)(hbt:w.params.followText "set-order" =false)(O:iG knd kf true o ks es ep t)(hdr:(!t.plain&&decide (es.size>1))=false):
  Steps prog w A I S es.size ep o [] (es.toList.map (·.2)) fun i=> .int (ig t i) 0 where
 item:=fun i s Q E hi hit hg _ hQ=>by
  have hl:=Yk O.fit;have hb:=Yj O.tok.JB (i:=i) (by omega)
  have hp:i<t.place.size:=by simpa using (by omega:i<t.place.toList.length)
  refine Bd hit hg O rfl ?_;refine z6 (m:=setNext _ _ _ _) (Ye (ep:=ep) hbt hg O hdr ?_);rw[show((ig t i:Nat):Int).toNat=ig t i from Int.toNat_natCast _,hb,Array.getElem?_eq_getElem hi,Array.getElem?_eq_getElem hp];dsimp only;obtain⟨oi,h1,h2,h3⟩:=id hit;refine z6 (m:=setField _ _ _) (wpAny_setField h1 h3 (by simp) ?_)
  have hit2:=hit.yF (rawInt (t.place[i]+1:Nat));obtain⟨oj,g1,g2,g3⟩:=id hit2;refine z6 (m:=setField _ _ _) (wpAny_setField g1 g3 (by simp) ?_)
  refine z7 (α:=_) ⟨_,rfl,hQ _ _ (by simp [hi]) ?_ ((Heap.SameBut.update s.heap I _).trans (Heap.SameBut.update _ I _))⟩
  have e:(Value.int (ig t (i+1)) 0)=rawInt (t.place[i]+1:Nat):=by
   unfold ig;rw[dif_pos ⟨by omega,by omega⟩]
   simp [rawInt]
  rw[e];exact hit2.yG
 done:=fun s Q E hit hg _ hQ=>by
  have hl:=Yk O.fit;have hb:=Yj O.tok.JB (i:=es.size) (by omega)
  refine Bd hit hg O rfl ?_;refine z6 (m:=setNext _ _ _ _) (Ye (ep:=ep) hbt hg O hdr ?_);rw[show((ig t es.size:Nat):Int).toNat=ig t es.size from Int.toNat_natCast _,hb,Array.getElem?_eq_none (Nat.le_refl _)];dsimp only;obtain⟨oi,h1,h2,h3⟩:=id hit;refine z6 (m:=setField _ _ _) (wpAny_setField h1 h3 (by simp) ?_)
  exact wpAny_mono (QB (I:=I) hh hQ (Heap.SameBut.update s.heap I _).extBut) (fun _ _ q=>q.elim) fun _ _ q=>q
theorem z04(hh:A.handled=none)(hbt:w.params.followText "set-order" =true)(O:iG knd kf led o ks es ep t):
  Steps prog w A I S es.size ep o [] ((pickOrder (w.params.setOrder S ep) es).toList.map (·.2)) fun _=> .int 0 0 where
 item:=fun i s Q E hi hit hg _ hQ=>by
  have hp:=(QC (w.params.setOrder S ep) es).length_eq;simp only [Array.length_toList] at hp;refine Bd hit hg O rfl ?_;refine z6 (m:=setNext _ _ _ _) (Yg hbt hg O ?_);have hi' :i< (pickOrder (w.params.setOrder S ep) es).size:=by omega
  rw[Array.getElem?_eq_getElem hi'];dsimp only [Option.map_some];obtain⟨oi,h1,h2,h3⟩:=id hit;refine z6 (m:=setField _ _ _) (wpAny_setField h1 h3 (by simp) ?_)
  have hit2:=hit.yF (rawInt ((0:Nat):Int));obtain⟨oj,g1,g2,g3⟩:=id hit2;refine z6 (m:=setField _ _ _) (wpAny_setField g1 g3 (by simp) ?_)
  exact z7 (α:=_) ⟨_,rfl,hQ _ _ (by simp [hi']) hit2.yG ((Heap.SameBut.update s.heap I _).trans (Heap.SameBut.update _ I _))⟩
 done:=fun s Q E hit hg _ hQ=>by
  have hp:=(QC (w.params.setOrder S ep) es).length_eq;simp only [Array.length_toList] at hp;refine Bd hit hg O rfl ?_;refine z6 (m:=setNext _ _ _ _) (Yg hbt hg O ?_);rw[Array.getElem?_eq_none (by omega)]
  dsimp only [Option.map_none];obtain⟨oi,h1,h2,h3⟩:=id hit;refine z6 (m:=setField _ _ _) (wpAny_setField h1 h3 (by simp) ?_)
  exact wpAny_mono (QB (I:=I) hh hQ (Heap.SameBut.update s.heap I _).extBut) (fun _ _ q=>q.elim) fun _ _ q=>q
theorem z1f{led:Bool}(hh:A.handled=none)(O:iG knd kf led o ks es ep t){Tp:Addr}{ot:Obj}{ps:List Nat}(hps:ps.Perm (List.range es.size))(hot:∃m,ot.data= .seq (ps.map fun(p:Nat)=>rawInt p).toArray m):
  Steps prog w A I S es.size ep o [(Tp,ot)] (ps.map fun p=>(es.getD p (0,.none)).2) fun _=> .ref Tp where
 item:=fun i s Q E hi hit hg hx hQ=>by
  obtain⟨m,hm⟩:=hot;have hl:ps.length=es.size:=by simpa using hps.length_eq
  have hi' :i<ps.length:=by omega
  have hlt:ps[i]<es.size:=List.mem_range.mp (hps.mem_iff.mp (yX hi'));refine Bd hit hg O rfl ?_;show wpAny _ _ (seqItems? (.ref Tp)>>=_) _ _ _;refine z6 (m:=seqItems? _) (wpAny_seqItems (hx (Tp,ot) (by simp)) hm ?_)
  dsimp only;have e:(ps.map fun(p:Nat)=>rawInt p).toArray[i]?=some (.int (ps[i]:Nat) 0):=by simp [hi',rawInt]
  rw[e];dsimp only;refine z6 (m:=setNextDrawn _ _ _) (zsk (x:=es[ps[i]]) hg O (by rw[Int.toNat_natCast];exact Array.getElem?_eq_getElem hlt) ?_)
  obtain⟨oi,h1,h2,h3⟩:=id hit;refine z6 (m:=setField _ _ _) (wpAny_setField h1 h3 (by simp) ?_)
  exact z7 (α:=_) ⟨_,rfl,hQ _ _ (by simp [hi',hlt]) hit.yG (Heap.SameBut.update s.heap I _)⟩
 done:=fun s Q E hit hg hx hQ=>by
  obtain⟨m,hm⟩:=hot;have hl:ps.length=es.size:=by simpa using hps.length_eq
  refine Bd hit hg O rfl ?_;show wpAny _ _ (seqItems? (.ref Tp)>>=_) _ _ _;refine z6 (m:=seqItems? _) (wpAny_seqItems (hx (Tp,ot) (by simp)) hm ?_)
  dsimp only;have e:(ps.map fun(p:Nat)=>rawInt p).toArray[es.size]?=none:=by simp [hl]
  rw[e];dsimp only;obtain⟨oi,h1,h2,h3⟩:=id hit;refine z6 (m:=setField _ _ _) (wpAny_setField h1 h3 (by simp) ?_)
  have hit2:=hit.yF (rawInt 0);obtain⟨oj,g1,g2,g3⟩:=id hit2;refine z6 (m:=setField _ _ _) (wpAny_setField g1 g3 (by simp) ?_)
  exact wpAny_mono (QB (I:=I) hh hQ ((Heap.SameBut.update s.heap I _).trans (Heap.SameBut.update _ I _)).extBut) (fun _ _ q=>q.elim) fun _ _ q=>q
end
section
variable{prog:Program}{w:World}{κ:Type}[DecidableEq κ]{knd:KeyKind prog w κ}{kf:Value ->κ}{A:Around}{E:bG}{s:Shared}{S:Addr}{ep:Nat}{o:Obj}{es:Array (Int×Value)}{t:SetTable}{ks:List κ}
structure Laid (knd:KeyKind prog w κ) (kf:Value ->κ) (s:Shared) (S:Addr) (o:Obj) (ks:List κ) (I:Addr) (h' :Heap) (n:Nat) (vals:List Value) (St:Nat ->Heap ->Prop) (fp:List Addr):Prop where
 wk:∀A' :Around,A'.handled=none ->Walks prog w A' I fp [I] n (fun i v=>vals[i]?=some v) St
 st:St 0 h'
 len:vals.length=n
 lem:n=ks.length
 key:(vals.map kf).Perm ks
 mem:∀v∈vals,(∃k,knd.is k v=true)/\v.scannable=true
 new:s.heap.objs.size<=I
 inF:I∈fp
 fpl:∀b∈fp,b<h'.objs.size
 fpn:∀b∈fp,b=S\/s.heap.objs.size<=b
 kep:∀b ob,s.heap.get? b=some ob ->h'.get? b=some ob
 siz:s.heap.objs.size<=h'.objs.size
theorem zyb(hg:s.heap.get? S=some o)(O:iG knd kf (fX w) o ks es ep t)(hb:es.size<=sizeLine)
  (h:∀(I:Addr) (h' :Heap) d n vals St fp,Laid knd kf s S o ks I h' n vals St fp ->Q (.ref I) {s with heap:=h',drawn:=d}):wpAny (model prog w) A (pyIter (.ref S)) Q E s:=by
 have hT:s.TypeIs (.ref S) "set" :=⟨o,hg,O.ex.1⟩;have hSl:S<s.heap.objs.size:=zG hg;have hlk:es.size=ks.length:=by simpa using O.key.length_eq
 have QD:∀v∈es.toList.map (·.2),(∃k,knd.is k v=true)/\v.scannable=true:=fun v hv=>by
  obtain⟨e,he,rfl⟩:=zE.mp hv;obtain⟨⟨k,hk,_⟩,hs⟩:=O.el e he;exact⟨⟨k,hk⟩,hs⟩
 have fin:∀(h1:Heap) d (vals:List Value) (ex:bw) (fst:Nat ->Value),s.heap.objs.size<=h1.objs.size ->(∀b ob,s.heap.get? b=some ob ->h1.get? b=some ob) ->(∀p∈ex,h1.get? p.1=some p.2/\s.heap.objs.size<=p.1) ->
   (∀A' :Around,A'.handled=none ->Steps prog w A' h1.objs.size S es.size ep o ex vals fst) ->vals.length=es.size ->(vals.map kf).Perm ks ->(∀v∈vals,(∃k,knd.is k v=true)/\v.scannable=true) ->
   Q (.ref h1.objs.size) {s with heap:=h1.push {cls:= .type "set_iterator",data:= .fields #[fst 0,rawInt 0,.ref S,rawInt es.size,rawInt ep]},drawn:=d}:=by
  intro h1 d vals ex fst hsz hk hx' hs hl hp hm;have hx:∀p∈ex,h1.get? p.1=some p.2:=fun p q=>(hx' p q).1;refine h _ _ d es.size vals _ _ ⟨fun A' hh=>ztz (hs A' hh) (zJ (zL hSl hsz)) (fun p q=>zJ (zG (hx p q))),⟨⟨_,zY _ rfl,rfl,rfl⟩,zZ _ (hk S o hg),fun p q=>zZ _ (hx p q)⟩,hl,hlk,hp,hm,hsz,by simp,fun b q=> ?_,fun b q=> ?_,fun b ob e=>zZ _ (hk b ob e),?_⟩
  ·rw[Heap.size_push];simp only [List.mem_cons,List.mem_map] at q;rcases q with rfl | rfl | ⟨p,hp',rfl⟩
   ·exact Nat.lt_succ_self _
   ·exact Nat.lt_succ_of_lt (zL hSl hsz)
   ·exact Nat.lt_succ_of_lt (zG (hx p hp'))
  ·simp only [List.mem_cons,List.mem_map] at q;rcases q with rfl | rfl | ⟨p,hp',rfl⟩
   ·exact .inr hsz
   ·exact .inl rfl
   ·exact .inr (hx' p hp').2
  ·rw[Heap.size_push];exact Nat.le_succ_of_le hsz
 refine wpAny_pyIter_slot hT PySem.F.slot_set_iter (wpAny_call_entry PySem.F.slot_set_iter hT zwk ?_ (PySem.F.args_set_iter_1 _));unfold Builtin.«frozenset.__iter__»;refine z6 (m:=Builtin.Frozenset.slot0 _ _) ?_;unfold Builtin.Frozenset.slot0;refine z6 (m:=slotArgs _ _ _) (z7 (α:=_) ?_);show wpAny _ _ (pure S) _ _ _;refine z7 (α:=_) ?_;refine z6 (m:=Builtin.Frozenset.sizeOf S) ?_;unfold Builtin.Frozenset.sizeOf;refine z6 (m:=setEntries S) (wpAny_setEntries_of hg O.dat O.fit (z7 (α:=_) ?_));refine z6 (m:=setDrawn S) (zn0 hg O ?_);dsimp only;cases hbt:w.params.followText "set-order" with
 | true=>
  rw[show(!true&&(!t.plain&&decide (es.size>1)))=false from rfl,if_neg Bool.false_ne_true];refine z6 (m:=pure _) (z7 (α:=_) ?_);refine z6 (m:=setEpoch S) (wpAny_setEpoch_of hg O.dat O.fit ?_);refine z6 (m:=newFields _ _) (wpAny_newObj_type (z7 (α:=_) ⟨_,rfl,"set_iterator",_,⟨_,zY _ rfl,rfl⟩,jq.lookup,?_⟩));have hp:=QC (w.params.setOrder S ep) es;refine fin s.heap s.drawn ((pickOrder (w.params.setOrder S ep) es).toList.map (·.2)) [] (fun _=> .int 0 0) (zM _) (fun _ _ e=>e) (fun p q=>by cases q) (fun A' hh=>z04 hh hbt O) (by simpa using hp.length_eq) ?_ fun v hv=>QD v ((hp.map _).mem_iff.mp hv)
  rw[List.map_map];exact(hp.map _).trans O.key
 | false=>
  have QH:fX w=true:=by unfold fX;rw[hbt];rfl
  cases hdr:(!t.plain&&decide (es.size>1)) with
  | false=>
   rw[show(!false&&false)=false from rfl,if_neg Bool.false_ne_true];refine z6 (m:=pure _) (z7 (α:=_) ?_);refine z6 (m:=setEpoch S) (wpAny_setEpoch_of hg O.dat O.fit ?_);refine z6 (m:=newFields _ _) (wpAny_newObj_type (z7 (α:=_) ⟨_,rfl,"set_iterator",_,⟨_,zY _ rfl,rfl⟩,jq.lookup,?_⟩));rw[QH] at O;refine fin s.heap s.drawn (es.toList.map (·.2)) [] (fun i=> .int (ig t i) 0) (zM _) (fun _ _ e=>e) (fun p q=>by cases q) (fun A' hh=>zzu hh hbt O hdr) (by simp) ?_ QD
   rw[List.map_map];exact O.key
  | true=>
   rw[show(!false&&true)=true from rfl,if_pos rfl];refine z6 (m:=drawOrder _ _) (zlp es.size (List.range es.size) (by simp) fun ps d hps=> ?_)
   have hpl:ps.length=es.size:=by simpa using hps.length_eq
   refine z6 (m:=newTuple _) (wpAny_newTuple ?_ (by rw[List.length_map,hpl];exact hb))
   have hgt:(s.heap.push {cls:= .type "tuple",data:= .seq (ps.map fun(i:Nat)=>rawInt i).toArray}).get? S=some o:=zZ _ hg;refine z6 (m:=setEpoch S) (wpAny_setEpoch_of hgt O.dat O.fit ?_);refine z6 (m:=newFields _ _) (wpAny_newObj_type (z7 (α:=_) ⟨_,rfl,"set_iterator",_,⟨_,zY _ rfl,rfl⟩,jq.lookup,?_⟩));have hpm:(ps.map fun p=>(es.getD p (0,.none)).2).Perm (es.toList.map (·.2)):=by
    refine(hps.map _).trans ?_;have:(List.range es.size).map (fun p=>(es.getD p (0,.none)).2)=es.toList.map (·.2):=by
     apply List.ext_getElem
     ·simp
     ·intro i h1 h2;have:i<es.size:=by simpa using h1
      simp [this]
    rw[this]
   refine fin _ d (ps.map fun p=>(es.getD p (0,.none)).2) [(s.heap.objs.size,{cls:= .type "tuple",data:= .seq (ps.map fun(i:Nat)=>rawInt i).toArray})] (fun _=> .ref s.heap.objs.size) (by rw[Heap.size_push];exact Nat.le_succ _) (fun b ob e=>zZ _ e) (fun p q=> ?_) (fun A' hh=>z1f hh O hps ⟨_,rfl⟩) (by simp [hpl]) ?_ fun v hv=>QD v (hpm.mem_iff.mp hv)
   ·obtain rfl:p=_:=by simpa using q
    exact⟨zY _ rfl,zM _⟩
   ·refine(hpm.map kf).trans ?_;rw[List.map_map];exact O.key
abbrev j6:Obj:={cls:= .type "list",data:= .seq ([]:List Value).toArray}
theorem zny(hh:A.handled=none)(hg:s.heap.get? S=some o)(O:iG knd kf (fX w) o ks es ep t)(hb:es.size<=sizeLine)
  (h:∀(vals:List Value) (h' :Heap) d tk,(vals.map kf).Perm ks ->(∀v∈vals,(∃k,knd.is k v=true)/\v.scannable=true) ->s.heap.objs.size<h'.objs.size ->(∀b ob,s.heap.get? b=some ob ->h'.get? b=some ob) ->Q vals {s with heap:=h',drawn:=d,toks:=tk}):
  wpAny (model prog w) A (collect (.ref S)) Q E s:=by
 have hSl:S<s.heap.objs.size:=zG hg;unfold collect;refine z6 (m:=runValue _) (wpAny_runValue (codeAny_builtin PySem.F.entry_proto_collect ?_));rw[Around.under_plainId PySem.F.plain_proto_collect _];show wpAny _ _ (newList []>>=fun l=>again (.builtin "list.__iadd__" ⟨[l,.ref S],[]⟩)) _ _ _;refine z6 (m:=newList []) (wpAny_newObj_type ?_);refine z7 (α:=_) ⟨plainId_quiet PySem.F.plain_list_iadd _,codeAny_builtin PySem.F.entry_list_iadd ?_⟩;rw[Around.under_plainId PySem.F.plain_list_iadd _];have hg1:(s.heap.push j6).get? S=some o:=zZ _ hg;have hT1:Shared.TypeIs {s with heap:=s.heap.push j6} (.ref S) "set" :=⟨o,hg1,O.ex.1⟩;show wpAny _ _ (Builtin.List.listExtendWith (.ref s.heap.objs.size) (.ref S) (.ref s.heap.objs.size)) _ _ _;unfold Builtin.List.listExtendWith;refine z6 (m:=typeOf _) (wpAny_typeOf hT1 ?_);have n1:Builtin.List.listSameRef (.ref s.heap.objs.size) (.ref S)=false:=by simp [Builtin.List.listSameRef,Nat.ne_of_gt hSl]
 rw[if_neg (by rw[n1];decide)]
 refine z6 (m:=pyIter _) (zyb hg1 O hb fun I h1 d n vals St fp L=> ?_);refine z6 (m:=holding _ _) (wpAny_holding (vs:= [_]) ?_);unfold Builtin.List.listLengthHint;have hg2:h1.get? S=some o:=L.kep S o hg1;have hT2:Shared.TypeIs {s with heap:=h1,drawn:=d} (.ref S) "set" :=⟨o,hg2,O.ex.1⟩;refine z6 (m:=specialOf _ _) (wpAny_specialOf hT2 PySem.F.slot_set_len.lookup ?_);dsimp only;rw[show splitId "set.__len__" =some ("set","__len__") by decide+kernel]
 dsimp only;refine z6 (m:=isInstance _ _) (wpAny_isInstance hT2 sub_set_self ?_);rw[if_neg (by decide),if_pos (by decide+kernel)]
 refine z6 (m:=typeOf _) (wpAny_typeOf hT2 ?_);dsimp only;refine z7 (α:=_) ?_;rw[if_pos (by decide+kernel)]
 refine z6 (m:=rule _) (wpAny_rule ?_);have hS1:h1.get? s.heap.objs.size=some j6:=L.kep _ _ (zY _ rfl);have hNI:s.heap.objs.size≠I:=zJ (zL (by rw[Heap.size_push];exact Nat.lt_succ_self _) L.new)
 refine z6 (m:=Builtin.List.listTouch _) ?_;show wpAny _ _ (updateSeq s.heap.objs.size (·.push .none)>>=fun _=>updateSeq s.heap.objs.size (·.pop)) _ _ _;refine z6 (m:=updateSeq _ _) (wpAny_updateSeq hS1 rfl ?_);have hS2:=Heap.get?_update_self (Obj.mapSeq (·.push Value.none)) hS1 rfl;refine wpAny_updateSeq hS2 rfl ?_;have hS3:=Heap.get?_update_self (Obj.mapSeq (·.pop)) hS2 rfl;have oth:∀b ob,b≠s.heap.objs.size ->h1.get? b=some ob ->((h1.update s.heap.objs.size (Obj.mapSeq (·.push Value.none))).update s.heap.objs.size (Obj.mapSeq (·.pop))).get? b=some ob:=
  fun b ob q e=>(Heap.get?_update_other _ _ (Ne.symm q)).trans ((Heap.get?_update_other _ _ (Ne.symm q)).trans e)
 have Yl:s.heap.objs.size∉fp:=fun q=>by
  rcases L.fpn _ q with z | z
  ·exact absurd z (Nat.ne_of_gt hSl)
  ·have z' :(s.heap.push j6).objs.size<=s.heap.objs.size:=z;rw[Heap.size_push] at z';exact absurd z' (Nat.not_succ_le_self _)
 have Bf:n<=sizeLine:=by
  have e1:=L.lem;have e2:es.size=ks.length:=by simpa using O.key.length_eq
  omega
 have W:=L.wk A.in1 (by simp [hh])
 refine z7 (α:=_) ⟨plainId_quiet PySem.F.plain_extend_loop _,codeAny_extend_loopS W.toS Bf _ Yl _ n 0 _ _ _ rfl (Nat.zero_le _) (W.frame 0 h1 _ L.st fun b q ob e=>oth b ob (fun z=>Yl (z ▸ q)) e) hS3 (ItemsOf.nil _) fun s' acc c' hm hS' hacc=> ?_⟩;show wpAny _ _ (load s.heap.objs.size>>=_) _ _ _;refine z6 (m:=load _) (wpAny_load hS' ?_);refine z7 (α:=_) ?_;have ev:acc.toList=vals:=by
  apply List.ext_getElem?;intro i;by_cases q:i<n
  ·have hi:i<acc.size:=by rw[hacc.1];exact q
   have:=hacc.2 i acc[i] (Array.getElem?_eq_getElem hi);rw[Array.getElem?_toList,Array.getElem?_eq_getElem hi,this]
  ·exact(List.getElem?_eq_none (by rw[Array.length_toList,hacc.1];omega)).trans (List.getElem?_eq_none (by rw[L.len];omega)).symm
 rw[ev];obtain⟨h',g',d',tk',os'⟩:=s';obtain rfl:g' =s.gens:=hm.gens;obtain rfl:d' =d:=hm.drawn;obtain rfl:os' =s.os:=hm.os;refine h vals h' d' tk' L.key L.mem (zG hS') fun b ob e=> ?_;have hlt:=zG e;have QJ:b≠s.heap.objs.size:=zJ hlt;refine hm.heap b ob ?_ (oth b ob QJ (L.kep b ob (zZ _ e)));simp only [List.mem_cons,List.not_mem_nil,or_false,not_or];exact⟨QJ,fun z=>QJ (by
  subst z;have z2:(s.heap.push j6).objs.size<=b:=L.new;rw[Heap.size_push] at z2;exact absurd hlt (Nat.not_lt_of_ge (Nat.le_of_succ_le z2)))⟩
end
def QK:Value ->Int | .int i _=>i | _=>0
theorem z5o(hob:h.get? a=some (seqObj "list" xs n)):∃e,(sortedHeap h a vs out).get? a=some (seqObj "list" out e):=by
 have hal:a<h.objs.size:=zG hob;have h1:=get?_update_seq hob (fun _=>(#[]:Array Value));have h2:(((h.update a (Obj.mapSeq fun _=> #[])).push (seqObj "tuple" vs.toArray 0)).push (seqObj "list" #[] 0)).get? a=some (seqObj "list" #[] _):=zZ _ (zZ _ h1);exact⟨_,get?_update_seq h2 (fun _=>out)⟩
theorem z4o(hb:h.get? b=some o)(hne:b≠a):(sortedHeap h a vs out).get? b=some o:=by
 have h1:(h.update a (Obj.mapSeq fun _=>(#[]:Array Value))).get? b=some o:=(Heap.get?_update_ne _ _ _ _ hne).trans hb;exact(Heap.get?_update_ne _ _ _ _ hne).trans (zZ _ (zZ _ h1))
section
variable{prog:Program}{w:World}{A:Around}{E:bG}{s:Shared}{S:Addr}{ks:List Int}
end
def Fi(P:Program)(w:World)(a:Addr)(ns:List Int):HO:= .ext fun h=>j4 (PySem.intKind P w) QK (fX w) h a (fJ (fun i=>ns.getD i 0) ns.length)
theorem z3k(I:Inv X pins σ H s)(d):Inv X pins σ H {s with drawn:=d}:=⟨I.ok,I.os,I.bare,I.base,I.loc,I.cell,I.free,I.freeC,I.pin,I.hok,I.len⟩
def aaW(X:Cx):List V ->Hp ->VK ->Prop:=fun vs H Q=>∃(p:Addr) (ns:List Int),vs= [.ref p]/\fO X.K H p (ns.map .int)/\ns.length+1<scanBound/\∀q,H q=none ->Q (.ref q) (upd H q (Fi X.prog X.w q ns))
def aaX(X:Cx):List V ->Hp ->VK ->Prop:=fun vs H Q=>∃(q:Addr) (ns:List Int),vs= [.ref q]/\H q=some (Fi X.prog X.w q ns)/\ (fJ (fun i=>ns.getD i 0) ns.length).length<64/\
 ∀(l:Addr) (ms:List Int),H l=none ->ms.Perm (fJ (fun i=>ns.getD i 0) ns.length) ->ms.Pairwise (· <= ·) ->Q (.ref l) (upd H l (.lst (ms.map .int)))
def z55:List D ->(List D ->Prop) ->Prop:=fun ds P=>match ds with
 | [.lst xs]=>∃ns,fW xs=some ns/\ns.length<63/\∀ms:List Int,ms.Pairwise (· < ·) ->(∀i,i∈ms↔i∈ns) ->P (ms.map .int)
 | _=>False
theorem zwz:bootBuiltins "set" =some (.type "set"):=by decide+kernel
section
variable{X:Cx}{F0 H0:Hp}{a e:Expr}{pos p pos2 p2:Pos}{t:aZ}
end
def Itv(K:W.Frag)(a:Addr)(xs:List V):It:=⟨fun i H=>fO K H a xs/\i<xs.length,fun i H x H' =>H' =H/\xs.reverse[i]?=some x,fun i _=>xs.length<=i⟩
def Ym(K:W.Frag)(ta:TA):TI:=fun σ H R=>ta σ H fun vs H1=>∃a xs,vs= [.ref a]/\fO K H1 a xs/\ (xs.length<=sizeLine ->R (Itv K a xs) H1)
def z2f(t:aZ):aZ:=fun Γ P E=>t Γ (fun ds Γ1=>match ds with | [.lst xs]=>P xs.reverse Γ1 | _=>False) E
section
variable{X:Cx}{F0 H0:Hp}{a e tg:Expr}{pos p pos2 p2:Pos}{t:aZ}
end
section
variable{prog:Program}{w:World}{A:Around}{E:bG}{s:Shared}
abbrev QL:Obj:={cls:= .type "list",data:= .seq #[]}
end
def z58:List D ->(List D ->Prop) ->Prop:=fun ds P=>match ds with | [.lst xs]=>P xs.reverse | _=>False
structure QM (K:W.Frag) (C:Addr):Prop where
 cls:DG K C=true
 g:u6 K C
 sa:W.findIn K (.ref C) "__setattr__" =some (some (.builtin "object.__setattr__"))
 hd:W.hasDictIn K C=true
section
variable{prog:Program}{w:World}{A:Around}{E:bG}{K:W.Frag}{h:Heap}{g:Array GenState}{d:Drawn}{t:Nat}{os:OsState}{x C:Addr}{o:Obj}{name:Str}{v:Value}
end
section
variable{prog:Program}{w:World}{A:Around}{E:bG}{K:W.Frag}{h:Heap}{g:Array GenState}{d:Drawn}{t:Nat}{os:OsState}{x C dx:Addr}{o:Obj}{name:Str}{v:Value}{mA:Str ->Option Value}
end
def XO(e C:Addr)(od:Option Addr):HO:= .ext fun h=>∃t,h.get? e=some ⟨.ref C,od,.fields #[.ref t,.none,.none,.none,.bool false,.none],#[]⟩
section
variable{X:Cx}{pins:bw}{σ:St}{H:Hp}{s:Shared}{A:Around}{E:bG}{a C dx:Addr}{f:Str}{y v:V}{u:Value}{fs:List (Str×V)}
end
def Yn(C:Addr)(f:Str)(ta:TE):TE:=fun σ H Q=>ta σ H fun x H1=>∃a dx fs v,x= .ref a/\H1 a=some (XO a C (some dx))/\H1 dx=some (.xd fs)/\fs.lookup f=some v/\Q v H1
def Yo(C:Addr)(f:Str)(ta tv:TE):TS:=fun D σ H=>tv σ H fun y H1=>ta σ H1 fun x H2=>∃a,x= .ref a/\H2 a=some (XO a C none)/\∀dx,H2 dx=none ->dx≠a ->D.nx σ (upd (upd H2 a (XO a C (some dx))) dx (.xd [(f,y)]))
structure aaY (K:W.Frag) (B:Addr):Prop where
 sp:W.specialIn K (.ref B) "__getattribute__" =some (some (.builtin "type.__getattribute__"))
 rd:W.readsIn K B (.type "type")=true
 fi:W.findCls K (.ref B) (.type "type") "__init__" =some (.val (.builtin "ValueError.__init__"))
section
variable{X:Cx}{o e value:Expr}{f:Str}{pos pos' apos p:Pos}{ta tv:TE}{C B:Addr}{x:Str}
end
def z4w(bn:Str)(p apos pos:Pos)(args:List Expr)(env:Env)(pl:Sem Bool):Prop:=eval (.Call (.Attribute (.Name bn p) "__init__" apos) args [] pos) env=(do
   let ov<- eval (.Name bn p) env
   standAt apos.atName
   let (f,first)<- holding [ov] (getMethod ov "__init__" pl)
   callWith pos f first (backTo pos (starEach args env)) (backToKw pos (keywordEach [] env)))
def z0f(K:W.Frag)(C:Addr)(f:Str)(sp:cj):Sp:=fun vs H Q E=>∃x rest F ds Pd Ex,vs= .ref x::rest/\H x=some (XO x C none)/\Same F H/\F x=none/\ak K F ds rest/\sp ds Pd Ex/\
 (∀d F' H3 v dx H',Gr F H F' H3 ->Rep K F' d v ->Pd d ->H3 dx=none ->dx≠x ->H' x=some (XO x C (some dx)) ->H' dx=some (.xd [(f,v)]) ->(∀b,b≠x ->b≠dx ->H' b=H3 b) ->Q .non H')/\∀C' H',Ex C' ->Same H H' ->E C' none H'
section
variable{P:Program}{w:World}{K:W.Frag}{mg:Str ->Option Value}{base:Heap}
end
def z5n(C:Addr)(sp:cj)(t:aZ):au:=fun _ Γ E=>t Γ (fun ds Γ1=>ds.length<=sizeLine/\sp ds (fun _=>E Γ1 (.ref C)) fun Cx=>E Γ1 Cx) E
section
variable{X:Cx}{F0 H0:Hp}{e:Expr}{es:List Expr}{pos np cpos:Pos}{t:aZ}{x fl:Str}{C f:Addr}{fd:FuncData}{ps:List Str}{k:Nat}{sp:cj}
structure Xk2 (P:Program) (w:World) (K:W.Frag) (mg:Str ->Option Value) (base:Heap) (x:Str) (C:Addr) (fl:Str) (k:Nat) (ps:List Str) (sp:cj):Prop where
 ex:∃f fd,d7 P w K mg base (gO P w) k f fd ps (z0f K C fl sp)/\W.findIn K (.ref C) "__init__" =some (some (.ref f))/\W.isFn K (.ref f)=true/\QM K C/\mg x=some (.ref C)/\Binds K fd ps []
end
section
variable{X:Cx}{F0 H0:Hp}{tg iter elt:Expr}{ifs:List Expr}{pos:Pos}{sc:Scope}{own:List Str}{caps:List Nat}{N' :List Str}{ti:aZ}{g:jD}{tc:TT2}{te:aH}
open Classical in
end
section
variable{K:W.Frag}{F H:Hp}
theorem JG:∀{ds:List D} {vs:List V},ak K F ds vs ->cL K F H (ds.map .leaf) vs []
 | [],_,h=>by unfold ak at h;subst h;rw[List.map_nil];unfold cL;exact⟨rfl,rfl⟩
 | d::ds,_,h=>by
  unfold ak at h;obtain⟨v,us,rfl,h1,h2⟩:=h;rw[List.map_cons];unfold cL;exact⟨v,us,[],[],rfl,rfl,by unfold TR;exact⟨rfl,h1⟩,JG h2⟩
theorem Yp:∀{ts us:List T} {vs ws:List V} {as bs:List Addr},cL K F H ts vs as ->cL K F H us ws bs ->cL K F H (ts++us) (vs++ws) (as++bs)
 | [],us,vs,ws,as,bs,h1,h2=>by
  unfold cL at h1;obtain⟨rfl,rfl⟩:=h1;exact h2
 | t::ts,us,vs,ws,as,bs,h1,h2=>by
  unfold cL at h1;obtain⟨v,vs',a1,a2,rfl,rfl,q1,q2⟩:=h1;rw[List.cons_append];unfold cL;exact⟨v,vs' ++ws,a1,a2++bs,rfl,by rw[List.append_assoc],q1,Yp q2 h2⟩
theorem z05(h:TR K F H t v as):cL K F H [t] [v] as:=by
 unfold cL;refine⟨v,[],as,[],rfl,by simp,h,?_⟩
 unfold cL;exact⟨rfl,rfl⟩
theorem Yq:∀{ts:List T} {vs:List V} {as:List Addr} {j:Nat} {t:T},cL K F H ts vs as ->ts[j]?=some t ->∃v b1 bs b2,vs[j]?=some v/\as=b1++ (bs++b2)/\TR K F H t v bs/\
  ∀{F' H' :Hp} {t' :T} {cs:List Addr},Same F F' ->(∀a∈b1++b2,∀u,H a=some u ->H' a=some u) ->TR K F' H' t' v cs ->cL K F' H' (ts.set j t') vs (b1++ (cs++b2))
 | [],_,_,j,t,_,e=>by simp at e
 | t0::ts,_,_,0,t,h,e=>by
  cases e;unfold cL at h;obtain⟨v,vs',a1,a2,rfl,rfl,q1,q2⟩:=h;refine⟨v,[],a1,a2,rfl,rfl,q1,fun{F' H' t' cs} f k r=> ?_⟩;rw[List.set_cons_zero];unfold cL;exact⟨v,vs',cs,a2,rfl,rfl,r,cL.move f ts vs' a2 (fun a ha=>k a ha) q2⟩
 | t0::ts,_,_,j+1,t,h,e=>by
  unfold cL at h;obtain⟨v,vs',a1,a2,rfl,rfl,q1,q2⟩:=h;obtain⟨w,b1,bs,b2,g1,rfl,g3,g4⟩:=Yq q2 (by simpa using e)
  refine⟨w,a1++b1,bs,b2,by simpa using g1,by simp,g3,fun{F' H' t' cs} f k r=> ?_⟩
  rw[List.set_cons_succ];unfold cL;exact⟨v,vs',a1,b1++ (cs++b2),rfl,by simp,TR.move f t0 v a1 (fun a ha=>k a (by simp [ha])) q1,g4 f (fun a ha=>k a (by rcases zR.mp ha with z | z<;>simp [z])) r⟩
end
mutual
def Fj:T ->Prop
 | .leaf d=>vd d
 | .lst ts=>nR ts
 | .dic _ ts=>nR ts
 | .gK _ ts=>nR ts
 | .ob _ _ ts=>nR ts
 | .kt _=>True
def nR:List T ->Prop
 | []=>True
 | t::ts=>Fj t/\nR ts
end
section
variable{K:W.Frag}{F F' H:Hp}
end
abbrev jj:=G2 ->(T ->G2 ->Prop) ->XW ->Prop
section
variable(K:W.Frag)(F0 H0:Hp)
def upN(t:jj)(E:XW):TE:=fun σ H Q=>∃F Γ P,SR K F0 H0 F H σ Γ/\t Γ P E/\∀tr Γ' F' H' v as,SR K F0 H0 F' H' σ Γ' ->Same F F' ->as.Nodup ->(∀a∈as,F' a=none/\H0 a=none/\Apart σ Γ' a) ->TR K F' H' tr v as ->P tr Γ' ->Q v H'
end
def QN(X:Cx)(F0 H0:Hp)(e:Expr)(t:jj):Prop:=∀z E,Ctx (X.wsh z) F0 H0 E ->PE (X.wsh z) e (upN X.K F0 H0 t E)
def Yr(t:aZ):jj:=fun Γ P E=>t Γ (fun ds Γ1=>P (.lst (ds.map .leaf)) Γ1) E
section
variable{X:Cx}{F0 H0:Hp}{e:Expr}{es:List Expr}{pos p:Pos}{te:aH}{tf:aZ}{tn:jj}
theorem z41(h:QF X F0 H0 e tf):QN X F0 H0 e (Yr tf):=fun z E cx=>
 jL (h z E cx) fun σ H Q hq1=>by obtain⟨F,Γ,P,R,h,k⟩:=hq1;exact⟨F,Γ,_,R,h,fun ds Γ1 F1 H1 a vs R1 s1 e1 e2 e3 r1 ap h1=>by
  refine k _ _ _ _ _ [a] R1 s1 (by simp) (fun b hb=>by rw[List.mem_singleton.mp hb];exact⟨e2,e3,ap⟩) ?_ h1
  unfold TR;exact⟨a,vs,[],rfl,rfl,e1,JG r1⟩⟩
def Bg:jj:=fun Γ P _=>P (.dic [] []) Γ
theorem Fl:QN X F0 H0 (.Dict [] [] pos) Bg:=fun z E cx=>
 jL zxg fun σ H Q hq2 q hq=>by
  obtain⟨F,Γ,P,R,h,k⟩:=hq2;have R2:SR X.K F0 H0 F (upd H q (.dK [])) σ Γ:=R.grow ⟨.refl _,fun b u e=>by rw[c7 (lG (R.g b u e) hq)];exact R.g b u e,fun b u e=>by rw[c7 (lG e hq)];exact e,fun b o e n=>by rw[e] at n;cases n⟩
  refine k _ _ _ _ _ [q] R2 (.refl _) (by simp) (fun b hb=>by rw[List.mem_singleton.mp hb];exact⟨R.g.free hq,R.gr.h.free hq,R.apart hq⟩) ?_ h
  unfold TR;exact⟨q,[],[],rfl,rfl,lV,rfl,by unfold cL;exact⟨rfl,rfl⟩⟩
def Ys(t:jj):jj:=fun Γ P _=>t (jm Γ) (fun tr _=>Fj tr/\P tr Γ) jY
open Classical in
def pR(i:Nat)(t:jj):au:=fun D Γ E=>t Γ (fun tr Γ1=>∀as,D.nx (Γ1.set i (.tr as tr))) E
theorem QV(hN:X.N.Nodup)(hi:X.N[i]?=some x)(hx:Loc X.env.scope x)(he:QN X F0 H0 e tn)(hs:swapsWith e (some (.Name x pos')) pos.line X.env=pure false:=by rfl)
  (hf:X.fn x=true\/X.env.scope.names.lookup x=some .local:=by first | exact .inl rfl | exact .inr rfl):QS X F0 H0 (.Assign [.Name x pos'] e pos) (pR i tn):=fun z E cx=>
 mK (Lj (X:=X.wsh z) (i:=i) hN hi hx (he z E cx) hs hf) fun D σ H rN=>by obtain⟨F,Γ,D2,R,h,k⟩:=rN;exact⟨F,Γ,_,R,h,fun t Γ1 F1 H1 v as R1 s1 nd hn r1 h1=>
  k.nx _ _ _ _ (R1.put i (s:= .tr as t) ⟨v,rfl,nd,fun b hb=>⟨(hn b hb).1,(hn b hb).2.1⟩,r1⟩ fun a ha=>(hn a ha).2.2) s1 (h1 as)⟩
def pU(t:jj):au:=fun D Γ E=>t Γ (fun tr _=>D.rT tr) E
theorem QX(he:QN X F0 H0 e tn):QS X F0 H0 (.Return (some e) pos) (pU tn):=fun z E cx=>
 mK (U6 (he z E cx)) fun D σ H oY=>by obtain⟨F,Γ,D2,R,h,k⟩:=oY;exact⟨F,Γ,_,R,h,fun t Γ1 F1 H1 v as R1 s1 nd hn r1 h1=>k.rT _ _ _ _ _ R1.gr nd (fun a ha=>⟨(hn a ha).1,(hn a ha).2.1⟩) r1 h1⟩
def nV(i:Nat):jj:=fun Γ P _=>match Γ[i]? with
 | some (.tr _ t)=>P t (Γ.set i .no)
 | _=>False
theorem Yt(hN:X.N[i]?=some x)(hv:oO X.env.scope x)(hd:(x==("__debug__" :Str))=false:=by decide)(hcd:(x==("__classdict__" :Str))=false:=by decide):QN X F0 H0 (.Name x pos) (nV i):=fun z E cx=>
 jL (rD (X:=X.wsh z) (i:=i) hN hv hd hcd) fun σ H Q qX=>by
  obtain⟨F,Γ,P,R,h,k⟩:=qX;unfold nV at h;split at h
  ·rename_i as t e;obtain⟨o,e0,v,rfl,nd,hn,r⟩:=R.sl i _ e;exact⟨v,e0,k t _ F H v as (R.dropAt e0) (.refl _) nd (fun a ha=>⟨(hn a ha).1,(hn a ha).2,R.less e e0 (show d9 (Slot.tr as t) (some v) a from ha)⟩) r h⟩
  ·exact h.elim
end
section
variable{prog:Program}{w:World}{κ:Type}[DecidableEq κ]{knd:KeyKind prog w κ}{A:Around}{E:bG}{s:Shared}{d:Addr}{ep:Nat}{kvs:List (κ×Value)}
end
section
variable{prog:Program}{w:World}{A:Around}{E:bG}{s:Shared}{d:Addr}{ep:Nat}{kvs:List (Key×Value)}
end
def Yu(X:Cx):List V ->Hp ->VK ->Prop:=fun vs H Q=>∃(q:Addr) (kvs:List (Key×V)) (ns:List Int),vs= [.ref q]/\H q=some (.dK kvs)/\kvs.map (·.1)=ns.map .inl/\ns.length<64/\
 ∀(l:Addr) (ms:List Int),H l=none ->ms.Perm ns ->ms.Pairwise (· <= ·) ->Q (.ref l) (upd H l (.lst (ms.map .int)))
def Yv(i:Nat):aZ:=fun Γ P _=>match Γ[i]? with
 | some (.tr _ (.dic ks _))=>∃ns:List Int,ks=ns.map .inl/\ns.length<64/\∀ms:List Int,ms.Perm ns ->ms.Pairwise (· <= ·) ->P (ms.map .int) Γ
 | _=>False
section
variable{X:Cx}{F0 H0:Hp}{pos p px:Pos}{x:Str}{i:Nat}
theorem QZ:∀{ks:List Key} {vs:List V},ks.length=vs.length ->(ks.zip vs).map (·.1)=ks
 | [],[],_=>rfl
 | [],_::_,h=>by cases h
 | _::_,[],h=>by cases h
 | k::ks,v::vs,h=>by rw[List.zip_cons_cons,List.map_cons,QZ (by simpa using h)]
end
section
variable{K:W.Frag}{F0 H0 F H F' H' :Hp}{σ:St}{Γ:List Slot}
theorem zrq(e1:σ[i]?=some o)(h:Apart σ Γ a):Apart σ (Γ.set i .no) a:=fun j q=>by
 have q' :iQ (Γ.set i .no) (σ.set i o) j a:=by rw[xJ e1];exact q
 rcases Dv q' with ⟨_,z⟩ | ⟨_,z⟩
 ·exact z
 ·exact h j z
theorem SR.wrT(R:SR K F0 H0 F H σ Γ)(e:Γ[i]?=some s)(e1:σ[i]?=some o)(h:d9 s o a)(r:iM K F (L2.upd H a u) H0 t o)(ht:∀b,d9 t o b ->d9 s o b\/Apart σ Γ b):
  SR K F0 H0 F (L2.upd H a u) σ (Γ.set i t):=by
 have R1:=R.wrO (t:= .no) (u:=u) e e1 h trivial fun _ z=>z.elim;have R2:=R1.put i r fun b hb=>by
  rcases ht b hb with z | z
  ·rw[show(Γ.set i Slot.no)=Γ.set i .no from rfl];exact R.less e e1 z
  ·exact zrq e1 z
 rw[xJ e1,List.set_set] at R2;exact R2
end
abbrev pW:=List D ->(T ->Prop) ->(Value ->Prop) ->Prop
def nT(K:W.Frag)(sp:pW):Sp:=fun vs H Q E=>∃F ds P Ex,Same F H/\ak K F ds vs/\sp ds P Ex/\ (∀t v as F' H',Gr F H F' H' ->as.Nodup ->(∀a∈as,F' a=none/\H a=none) ->TR K F' H' t v as ->P t ->Q v H')/\∀C H',Ex C ->Same H H' ->E C none H'
def vg(sp:pW):cj:=fun ds P E=>sp ds (fun t=>P (toD t)) E
open Classical in
theorem zxk{K:W.Frag}{sp:pW}{vs:List V}{H:Hp}{Q:VK}{E:XK}(h:jO K (vg sp) vs H Q E):nT K sp vs H Q E:=by
 obtain⟨F,ds,P,Ex,h1,h2,h3,h4,h5⟩:=h;refine⟨F,ds,fun t=>P (toD t),Ex,h1,h2,h3,fun t v as F' H' g nd hn r p=> ?_,h5⟩;have s1:Same F' (fun b=>if b∈as then H' b else F' b):=fun b u e=>by
  show(if b∈as then H' b else F' b)=some u;rw[if_neg fun hb=>by rw[(hn b hb).1] at e;cases e]
  exact e
 refine h4 (toD t) v (fun b=>if b∈as then H' b else F' b) H' ⟨g.f.trans s1,fun b u e=> ?_,g.h,fun b o e n=> ?_⟩ (TR.rep s1 t v as (fun a ha u hu=> ?_) r) p
 ·have e' :(if b∈as then H' b else F' b)=some u:=e;split at e'
  ·exact e'
  ·exact g.g b u e'
 ·have e' :(if b∈as then H' b else F' b)=some o:=e;split at e'
  ·rename_i hb;exact .inl (hn b hb).2
  ·exact g.n b o e' n
 ·show(if a∈as then H' a else F' a)=some u;rw[if_pos ha];exact hu
structure mU (P:Program) (w:World) (K:W.Frag) (mg:Str ->Option Value) (base:Heap) (x:Str) (k:Nat) (ps:List Str) (sp:pW):Prop where
 ex:∃f fd,d7 P w K mg base (gO P w) k f fd ps (nT K sp)/\mg x=some (.ref f)/\W.keepIn K (.ref f)=true/\Binds K fd ps []
theorem mU.fn{P:Program}{w:World}{K:W.Frag}{mg:Str ->Option Value}{base:Heap}{x:Str}{k:Nat}{ps:List Str}{sp:pW}(G:mU P w K mg base x k ps sp):cP P w K mg base x k ps (vg sp):=by
 obtain⟨f,fd,h1,h2⟩:=G.ex;exact⟨f,fd,h1.imp fun _ _ _ _ q=>zxk q,h2⟩
section
variable{P:Program}{w:World}{K:W.Frag}{mg:Str ->Option Value}{base:Heap}
theorem yH{x qual:Str}{st:Stmt}{f:Addr}{fd:FuncData}{N ps:List Str}{k:Nat}{sp:pW}(Fn:fK K x qual st f fd)(S:aB N ps (bM st))(len:∀ds Q E,sp ds Q E ->ds.length=ps.length)
  (hbody:∀(cdv:Value) (A:Around) (outer:List Env) (s:Shared) (H:Hp) (E:XK),eU k (A.deeper (envOfC qual (bM st) s.heap.objs.size f cdv)) ->∀F0:Hp,
   ∃t,pL (jK (gO P w) P w K mg base N qual (bM st) f cdv A outer s H E) F0 H (rG st) t/\∀ds Q Ex,sp ds Q Ex ->t {nx:=fun _=>False,rt:=fun _=>False,rT:=Q} (gA N ds) fun _=>Ex):
  d7 P w K mg base (gO P w) (k+1) f fd ps (nT K sp):=by
 obtain⟨oc,od,kV,doc,pm,an,cdv,ct,osl,rfl,lk,hcd⟩:=Fn.ex;refine Vw lk hcd S (fun vs H Q E ⟨F,ds,P',Ex,_,rs,hs,_⟩=>by rw[<- gM rs];exact len _ _ _ hs) fun A outer s H vs Q E hr ⟨F0,ds,Pd,Ex,sF,rs,hsp,hQ,hE⟩=> ?_
 obtain⟨t,ht,hq⟩:=hbody cdv A outer s H E hr F0;have cx:Ctx ((jK (gO P w) P w K mg base N qual (bM st) f cdv A outer s H E).wsh ⟨(jK (gO P w) P w K mg base N qual (bM st) f cdv A outer s H E).xe,[]⟩) F0 H (fun _=>Ex):=by
  refine⟨fun pins σ Γ F H1 s1 e s' I R hx=> ?_,PassesOwn.leaving⟩;refine bF (Wg (E:=fun C dx H' =>E C dx H') I rfl rfl rfl (hx.imp fun C dx H' z=> ?_)) fun _ s'' z=>z;obtain⟨Γ',F',R',_,z1,rfl⟩:=z;exact hE C H' z1 R'.gr.h
 exact⟨_,ht _ _ cx,F0,gA N ds,{nx:=fun _=>False,rt:=fun _=>False,rT:=Pd},Wu sF rs,hq ds Pd Ex hsp,⟨fun _ _ _ _ _ _ q=>q.elim,fun _ _ _ _ _ _ q=>q,fun _ _ _ _ _ _ q=>q,fun _ _ _ _ _ _ q=>q.elim,fun _ _ _ _ _ _ q=>q.elim,fun t v as F' H' gr nd hn r q=>hQ t v as F' H' gr nd hn r q,fun _ _ _ _ _ _ _ _ q=>q.elim⟩⟩
end
def j7(sp:pW)(t:aZ):jj:=fun Γ P E=>t Γ (fun ds Γ1=>sp ds (fun tr=>P tr Γ1) fun C=>E Γ1 C) E
section
variable{X:Cx}{F0 H0:Hp}{e:Expr}{es:List Expr}{pos p:Pos}{x:Str}{ps:List Str}{k:Nat}{sp:pW}{t:aZ}
theorem JH(G:mU X.prog X.w X.K X.mg X.base x k ps sp)(hr:eU k X.A)(hg:Gl X x)(ha:QA X F0 H0 (e::es) t)(hdb:(x==("__debug__" :Str))=false:=by decide)(he:starEach (e::es) X.env=(false,eval e X.env)::starEach es X.env:=by rfl)(hpl:(backTo pos (starEach es X.env)).any (·.1)=false:=by rfl):
  QN X F0 H0 (.Call (.Name x p) (e::es) [] pos) (j7 sp t):=by
 obtain⟨f,fd,Fn,hm,hk,hb⟩:=G.ex;rintro z E cx pins s σ H Q I ⟨F,Γ,P,R,h,kk⟩;refine wpAny_Call_Name_kw (K6 (X:=X.wsh z) I hg hm ?_ hdb);refine W.callWith_K (h₀:=X.base) I.ok.mod.Cg hk (bF (ha z E cx pos pins s σ H (fun vs H1=>∃F1 Γ1 ds,SR X.K F0 H0 F1 H1 σ Γ1/\Same F F1/\ak X.K F1 ds vs/\sp ds (fun d=>P d Γ1) fun C=>E Γ1 C) I ⟨F,Γ,_,R,h,fun ds Γ1 F1 H1 vs R1 s1 r1 h1=>⟨F1,Γ1,ds,R1,s1,r1,h1⟩⟩) fun us s1 ⟨vs,H1,I1,r,F1,Γ1,ds,R1,sF,rs,q⟩=>⟨I1.kIn,?_⟩) he hpl;have hs:nT X.K sp vs H1 Q (fun C dx H' =>E Γ1 C/\dx=none/\Same H1 H'):=⟨F1,ds,_,_,R1.g,rs,q,fun t v as F' H' gr nd hn rt hp=>kk t Γ1 F' H' v as (R1.grow gr) (sF.trans gr.f) nd (fun a ha=>⟨(hn a ha).1,R1.gr.h.free (hn a ha).2,R1.apart (hn a ha).2⟩) rt hp,fun C H' hE hS=>⟨hE,rfl,hS⟩⟩;have hl:(us++ []).length=ps.length:=by rw[List.append_nil,<- r.length];exact Fn.len _ _ _ _ hs
 have hbs:=hb s1 us I1.kIn hl;rw[List.append_nil] at hbs;refine wpAny_call (codeAny_mono (Fn.run X.A X.stack s1 H1 ⟨us,[]⟩ us vs Q _ hr I1.env0 hbs r hs) fun r s' hq=> ?_);cases r with
 | error e=>exact cx.px pins σ Γ1 F1 H1 s1 e s' I1 R1 hq
 | ok fl=>
  cases fl with
  | ret u=>exact I1.after hq
  | next=>exact False.elim hq
  | brk=>exact False.elim hq
  | cont=>exact False.elim hq
end
def aaZ(i:Nat)(t:TE):TS:=fun D σ H=>∃a vs,σ[i]?=some (some (.ref a))/\H a=some (.lst vs)/\t σ H fun v H1=>∃l us y,V.ref a= .ref l/\ [v]= [y]/\H1 l=some (.lst us)/\us.length<sizeLine/\D.nx σ (upd H1 l (.lst (us++ [y])))
section
variable{X:Cx}{F0 H0:Hp}{e:Expr}{pos npos apos cpos:Pos}{x:Str}{i:Nat}{t:TE}{te:aH}{tn:jj}
def cTA(i:Nat)(te:aH):au:=fun D Γ E=>(∃as ts,Γ[i]?=some (.tr as (.lst ts)))/\te Γ (fun d Γ1=>match Γ1[i]? with | some (.tr as (.lst ts))=>ts.length<sizeLine/\D.nx (Γ1.set i (.tr as (.lst (ts++ [.leaf d])))) | _=>False) E
def cTN(i:Nat)(tn:jj):au:=fun D Γ E=>(∃as ts,Γ[i]?=some (.tr as (.lst ts)))/\tn Γ (fun t Γ1=>match Γ1[i]? with | some (.tr as (.lst ts))=>ts.length<sizeLine/\∀cs,D.nx (Γ1.set i (.tr (as++cs) (.lst (ts++ [t])))) | _=>False) E
end
end L3
namespace L3
open PySem PySem.Spec PyProof.Rows L2
def iW(ks:List Key)(k:Key):Bool:=ks.any fun k' =>decide (k' =k)
theorem j8:iW ks k=true↔k∈ks:=by
 unfold iW;rw[List.any_eq_true];exact⟨fun⟨x,h,e⟩=>of_decide_eq_true e ▸ h,fun h=>⟨k,h,decide_eq_true rfl⟩⟩
def eF(ks:List Key)(k:Key):List Key:=if iW ks k=true then ks else ks++ [k]
def bZ{α:Type}(ks:List Key)(xs:List α)(k:Key)(x:α):List α:=if iW ks k=true then List.zipWith (fun k' y=>if k' =k then x else y) ks xs else xs++ [x]
theorem Yw:∀{ks:List Key} {vs:List V},ks.length=vs.length ->(ks.zip vs).map (fun kv=>if kv.1=k then(kv.1,v) else kv)=ks.zip (List.zipWith (fun k' y=>if k' =k then v else y) ks vs)
 | [],_,_=>rfl
 | _::_,[],h=>by cases h
 | k' ::ks,w::vs,h=>by
  rw[List.zip_cons_cons,List.map_cons,List.zipWith_cons_cons,List.zip_cons_cons,Yw (by simpa using h)]
  by_cases q:k' =k<;>simp [q]
theorem Q5(h:ks.length=vs.length):putK (ks.zip vs) k v=(eF ks k).zip (bZ ks vs k v):=by
 unfold putK eF bZ;have e:((ks.zip vs).any fun kv=>decide (kv.1=k))=true↔iW ks k=true:=by
  rw[j8,List.any_eq_true];constructor
  ·rintro⟨kv,hm,q⟩;have:=List.mem_map_of_mem (f:=(·.1)) hm;rw[QZ h] at this;rw[<- of_decide_eq_true q];exact this
  ·intro hm;rw[<- QZ h] at hm;obtain⟨kv,h1,h2⟩:=zE.mp hm;exact⟨kv,h1,decide_eq_true h2⟩
 by_cases q:iW ks k=true
 ·rw[if_pos (e.mpr q),if_pos q,if_pos q];exact Yw h
 ·rw[if_neg (fun z=>q (e.mp z)),if_neg q,if_neg q,List.zip_append h]
  rfl
theorem Yx(h:ks.length=xs.length):(eF ks k).length=(bZ ks xs k x).length:=by
 unfold eF bZ;split
 ·rw[List.length_zipWith,<- h,Nat.min_self]
 ·simp [h]
theorem Yy{K:W.Frag}{F:Hp}{k:Key}{d:D}{v:V}(r:Rep K F d v):∀{ks:List Key} {xs:List D} {vs:List V},ak K F xs vs ->ak K F (List.zipWith (fun k' y=>if k' =k then d else y) ks xs) (List.zipWith (fun k' y=>if k' =k then v else y) ks vs)
 | [],xs,vs,h=>by simp [ak]
 | _::_,[],vs,h=>by unfold ak at h;subst h;simp [ak]
 | k' ::ks,x::xs,vs,h=>by
  unfold ak at h;obtain⟨u,us,rfl,h1,h2⟩:=h;rw[List.zipWith_cons_cons,List.zipWith_cons_cons];refine oW ?_ (Yy r h2);by_cases q:k' =k
  ·rw[if_pos q,if_pos q];exact r
  ·rw[if_neg q,if_neg q];exact h1
theorem Yz{K:W.Frag}{F:Hp}{ks:List Key}{xs:List D}{vs:List V}{k:Key}{d:D}{v:V}(h:ak K F xs vs)(r:Rep K F d v):ak K F (bZ ks xs k d) (bZ ks vs k v):=by
 unfold bZ;split
 ·exact Yy r h
 ·exact xH h (Dt r)
theorem Q6{K:W.Frag}{F H:Hp}:∀{xs:List D} {vs:List V} {as:List Addr},cL K F H (xs.map .leaf) vs as ->as= []/\ak K F xs vs
 | [],vs,as,h=>by rw[List.map_nil] at h;unfold cL at h;unfold ak;exact⟨h.2,h.1⟩
 | x::xs,vs,as,h=>by
  rw[List.map_cons] at h;unfold cL at h;obtain⟨v,us,bs,cs,rfl,rfl,h1,h2⟩:=h;unfold TR at h1;obtain⟨rfl,r⟩:=h1;obtain⟨rfl,rs⟩:=Q6 h2;exact⟨rfl,oW r rs⟩
def cDP(i:Nat)(tk tv:aH):au:=fun D Γ E=>tv Γ (fun d Γ1=>(∃as t,Γ1[i]?=some (.tr as t))/\tk Γ1 (fun kd Γ2=>match kd,Γ2[i]? with
 | .int k,some (.tr as (.dic ks ts))=>∃xs,ts=xs.map .leaf/\ks.length<sizeLine/\D.nx (Γ2.set i (.tr as (.dic (eF ks (.inl k)) ((bZ ks xs (.inl k) d).map .leaf))))
 | _,_=>False) E) E
section
variable{X:Cx}{F0 H0:Hp}{ke value:Expr}{pos npos pos' :Pos}{x:Str}{i:Nat}{tk tv:aH}
end
section
variable{K:W.Frag}{F0 H0 F H F' H' :Hp}{σ σ' :St}{Γ Γ' :List Slot}
open Classical in
noncomputable def aa0 (Γ:List Slot) (σ:St) (H:Hp):Hp:=fun b=>if mQ Γ σ b then none else H b
end
def Fo(i x:Nat)(a b:Addr)(Bh:List T)(j:Nat)(I:Nat ->G2 ->Prop):G2 ->Prop:=fun Γ' =>∃cs' us',Γ'[x]?=some (Slot.tr (b::cs') (.lst us'))/\Γ'[i]?=some (Slot.pu (.ptr a))/\
 ∀q:List Addr,I (j+1) ((Γ'.set x Slot.no).set i (Slot.tr (a::q) (.lst (Bh.set j (.lst us')))))
def YB(i x:Nat)(tb:au):au:=fun D0 Γ _=>∃as ts,Γ[i]?=some (Slot.tr as (.lst ts))/\∀a bs,as=a::bs ->∃I:Nat ->G2 ->Prop,I 0 Γ/\
 (∀(j:Nat) Γ1,j<ts.length ->I j Γ1 ->∃bs1 Bh us,Γ1[i]?=some (Slot.tr (a::bs1) (.lst Bh))/\Bh.length=ts.length/\Bh[j]?=some (.lst us)/\
  ∀(b:Addr) (cs:List Addr),tb {nx:=Fo i x a b Bh j I,ct:=fun _=>False,bk:=fun _=>False,rt:=D0.rt,rf:=D0.rf,rT:=D0.rT} ((Γ1.set i (Slot.pu (.ptr a))).set x (Slot.tr (b::cs) (.lst us))) jY)/\
 ∀Γ1,I ts.length Γ1 ->D0.nx Γ1
section
variable{X:Cx}{F0 H0:Hp}{pos px pn:Pos}{xv xn:Str}{i x:Nat}{body:List Stmt}{tb:au}
open Classical in
end
def nL1(t:jj):jj:=fun Γ P E=>t Γ (fun tr Γ1=>P (.lst [tr]) Γ1) E
section
variable{X:Cx}{F0 H0:Hp}{e:Expr}{pos:Pos}{tn:jj}
end
end L3
namespace L3
open PySem PySem.Spec PyProof.Rows L2 PySem.W
structure Ord (lt:Nat ->Nat ->Bool) (n:Nat):Prop where
 tri:∀i j,i<n ->j<n ->i≠j ->lt i j=false ->lt j i=true
 Q7:∀i j,i<n ->j<n ->lt i j=true ->lt j i=false
 tr:∀i j k,i<n ->j<n ->k<n ->lt i j=true ->lt j k=true ->lt i k=true
def Sat{α:Type}(lt:Nat ->Nat ->Bool)(n:Nat)(t:KasT α)(Q:α ->Prop):Prop:=yE lt n t=true/\Q (Bc lt t)
section
variable{lt:Nat ->Nat ->Bool}{n:Nat}{α β:Type}
theorem sO(h:Q a):Sat lt n (.ret a) Q:=⟨rfl,h⟩
theorem Bj(hi:i<n)(hj:j<n)(hij:i≠j)(h:Sat lt n (k (lt i j)) Q):Sat lt n (.ask i j k) Q:=by
 refine⟨?_,h.2⟩;unfold yE;simp only [Bool.and_eq_true,decide_eq_true_eq];exact⟨hi,hj,hij,h.1⟩
theorem Bk:∀{t:KasT α},Sat lt n t (fun a=>Sat lt n (f a) Q) ->Sat lt n (t.bind f) Q
 | .ret a,h=>h.2
 | .ask i j k,h=>by
  have h1:=h.1;unfold yE at h1;simp only [Bool.and_eq_true,decide_eq_true_eq] at h1;exact Bj h1.1 h1.2.1 h1.2.2.1 (Bk ⟨h1.2.2.2,h.2⟩)
theorem Sat.imp(h:Sat lt n t Q)(k:∀a,Q a ->Q' a):Sat lt n t Q' :=⟨h.1,k _ h.2⟩
def Pm(n:Nat)(p:Array Nat):Prop:=p.toList.Perm (List.range n)
theorem Pm.size(h:Pm n p):p.size=n:=by simpa using List.Perm.length_eq h
theorem Fp{p:Array Nat}{k:Nat}(hk:k<p.size):p.getD k 0=p.toList[k]'(by simpa using hk):=by simp [Array.getD,hk]
theorem Pm.below{p:Array Nat}(h:Pm n p){k:Nat}(hk:k<n):p.getD k 0<n:=by
 have hk' :k<p.size:=by rw[h.size];exact hk
 rw[Fp hk'];exact List.mem_range.mp (h.mem_iff.mp (yX _))
theorem Pm.ne{p:Array Nat}(h:Pm n p){k j:Nat}(hk:k<n)(hj:j<n)(hkj:k≠j):p.getD k 0≠p.getD j 0:=by
 have nd:p.toList.Nodup:=h.nodup_iff.mpr List.nodup_range;rw[Fp (by rw[h.size];exact hk),Fp (by rw[h.size];exact hj)]
 have key:=List.pairwise_iff_getElem.mp nd;rcases Nat.lt_or_gt_of_ne hkj with q | q
 ·exact key k j _ _ q
 ·exact fun z=>key j k _ _ q z.symm
def Lp(lt:Nat ->Nat ->Bool)(p:Array Nat)(i j:Nat):Bool:=lt (p.getD i 0) (p.getD j 0)
def Up(lt:Nat ->Nat ->Bool)(p:Array Nat)(r:Nat):Prop:=∀i j,i<j ->j<r ->Lp lt p i j=true
def Dn(lt:Nat ->Nat ->Bool)(p:Array Nat)(r:Nat):Prop:=∀i j,i<j ->j<r ->Lp lt p j i=true
theorem Q8(O:Ord lt n)(P:Pm n p)(hi:i<n)(hj:j<n)(hij:i≠j)(h:Lp lt p i j=false):Lp lt p j i=true:=O.tri _ _ (P.below hi) (P.below hj) (P.ne hi hj hij) h
theorem JK(O:Ord lt n)(P:Pm n p)(hi:i<n)(hj:j<n)(hk:k<n)(h:Lp lt p i j=true)(h' :Lp lt p j k=true):Lp lt p i k=true:=O.tr _ _ _ (P.below hi) (P.below hj) (P.below hk) h h'
theorem z0z(O:Ord lt n)(P:Pm n p)(hr:r<n)(h1:1<=r)(U:Up lt p r)(h:Lp lt p (r - 1) r=true):Up lt p (r+1):=fun i j hij hj=>by
 rcases Nat.lt_or_ge j r with q | q
 ·exact U i j hij q
 ·obtain rfl:j=r:=by omega
  rcases Nat.lt_or_ge i (j - 1) with q' | q'
  ·exact JK O P (by omega) (by omega) hr (U i (j - 1) q' (by omega)) h
  ·obtain rfl:i=j - 1:=by omega
   exact h
theorem zz4(O:Ord lt n)(P:Pm n p)(hr:r<n)(h1:1<=r)(U:Dn lt p r)(h:Lp lt p r (r - 1)=true):Dn lt p (r+1):=fun i j hij hj=>by
 rcases Nat.lt_or_ge j r with q | q
 ·exact U i j hij q
 ·obtain rfl:j=r:=by omega
  rcases Nat.lt_or_ge i (j - 1) with q' | q'
  ·exact JK O P hr (by omega) (by omega) h (U i (j - 1) q' (by omega))
  ·obtain rfl:i=j - 1:=by omega
   exact h
theorem Q9(O:Ord lt n)(P:Pm n p):∀(f m:Nat),1<=m ->m+f<=n ->Up lt p m ->Sat lt n (kas_asc p f m) fun r=>m<=r/\r<=m+f/\Up lt p r/\ (r<m+f ->Lp lt p r (r - 1)=true)
 | 0,m,h1,_,U=>sO ⟨zM _,zM _,U,fun z=>absurd z (yV _)⟩
 | f+1,m,h1,hn,U=>by
  unfold kas_asc;refine Bj (P.below (by omega)) (P.below (by omega)) (P.ne (by omega) (by omega) (by omega)) ?_
  cases q:lt (p.getD m 0) (p.getD (m - 1) 0) with
  | true=>
   rw[if_pos rfl];exact sO ⟨zM _,by omega,U,fun _=>q⟩
  | false=>
   rw[if_neg (by decide)]
   refine(Q9 O P f (m+1) (by omega) (by omega) (z0z O P (by omega) h1 U (Q8 O P (by omega) (by omega) (by omega) q))).imp fun r ⟨a1,a2,a3,a4⟩=>⟨by omega,by omega,a3,fun z=>a4 (by omega)⟩
theorem YC(O:Ord lt n)(P:Pm n p):∀(f m:Nat),1<=m ->m+f<=n ->Dn lt p m ->Sat lt n (kas_desc f p m 0) fun r=>r.1=p/\m<=r.2.1/\r.2.1<=m+f/\r.2.2=0/\Dn lt p r.2.1
 | 0,m,h1,_,U=>sO ⟨rfl,zM _,zM _,rfl,U⟩
 | f+1,m,h1,hn,U=>by
  unfold kas_desc;refine Bj (P.below (by omega)) (P.below (by omega)) (P.ne (by omega) (by omega) (by omega)) ?_
  cases q:lt (p.getD m 0) (p.getD (m - 1) 0) with
  | true=>
   rw[if_pos rfl,if_neg (by decide)]
   exact(YC O P f (m+1) (by omega) (by omega) (zz4 O P (by omega) h1 U q)).imp fun r hq1=>by obtain⟨a1,a2,a3,a4,a5⟩:=hq1;exact⟨a1,by omega,by omega,a4,a5⟩
  | false=>
   rw[if_neg (by decide)]
   refine Bj (P.below (by omega)) (P.below (by omega)) (P.ne (by omega) (by omega) (by omega)) ?_
   have q' :lt (p.getD (m - 1) 0) (p.getD m 0)=true:=Q8 O P (i:=m) (j:=m - 1) (by omega) (by omega) (by omega) q
   rw[q',if_pos rfl];exact sO ⟨rfl,zM _,by show m<=_;omega,rfl,U⟩
theorem YD(P:Pm n p)(i j:Nat):Pm n (kas_rev p i j):=(Array.perm_iff_toList_perm.mp (mirror_perm p i j ((j - i)/2))).trans P
theorem getD_get?{p q:Array Nat}{i j:Nat}(h:p[i]?=q[j]?):p.getD i 0=q.getD j 0:=by
 rw[Array.getD_eq_getD_getElem?,Array.getD_eq_getD_getElem?,h]
theorem YF{p:Array Nat}{m k:Nat}(hm:m<=p.size)(hk:k<m):(kas_rev p 0 m).getD k 0=p.getD (m - 1 - k) 0:=by
 have e:=getElem?_mirror_all (i:=0) hm k;rw[if_pos ⟨Nat.zero_le _,hk⟩] at e;have:=getD_get? e;rw[show 0+m - 1 - k=m - 1 - k by omega] at this
 exact this
theorem z0j(O:Ord lt n)(P:Pm n p)(h1:1<=m)(hm:m<=n)(D:Dn lt p m):Sat lt n (kas_tail3 m n p) fun r=>Pm n r.2/\1<=r.1/\r.1<=n/\Up lt r.2 r.1:=by
 unfold kas_tail3;have U:Up lt (kas_rev p 0 m) m:=fun i j hij hj=>by
  unfold Lp;rw[YF (by rw[P.size];exact hm) (by omega),YF (by rw[P.size];exact hm) hj]
  exact D (m - 1 - j) (m - 1 - i) (by omega) (by omega)
 exact Bk ((Q9 O (YD P 0 m) (n - m) m h1 (by omega) U).imp fun r ⟨a1,a2,a3,_⟩=>sO ⟨YD P 0 m,by show 1<=r;omega,by show r<=n;omega,a3⟩)
theorem zz6(O:Ord lt n)(P:Pm n p)(h1:1<=n):Sat lt n (kas_count n p) fun r=>Pm n r.2/\1<=r.1/\r.1<=n/\Up lt r.2 r.1:=by
 unfold kas_count;refine Bk ((Q9 O P (n - 1) 1 (zM _) (by omega) (fun i j a b=>by omega)).imp fun r ⟨a1,a2,a3,a4⟩=> ?_)
 by_cases e:r=n
 ·rw[if_pos (by simp [e])]
  exact sO ⟨P,a1,by show r<=n;omega,a3⟩
 ·rw[if_neg (by simp [e])]
  by_cases g:r>1
  ·rw[if_pos g];refine Bj (P.below (by omega)) (P.below (by omega)) (P.ne (by omega) (by omega) (by omega)) ?_
   have q:lt (p.getD 0 0) (p.getD (r - 1) 0)=true:=a3 0 (r - 1) (by omega) (by omega)
   rw[q,if_pos rfl];exact sO ⟨P,a1,by show r<=n;omega,a3⟩
  ·rw[if_neg g];obtain rfl:r=1:=by omega
   unfold kas_descPart;have q:=a4 (by omega)
   have D:Dn lt p 2:=fun i j hij hj=>by
    obtain rfl:i=0:=by omega
    obtain rfl:j=1:=by omega
    exact q
   refine Bk ((YC O P (n - (1+1)) (1+1) (by omega) (by omega) D).imp fun r hq2=> ?_)
   obtain⟨b1,b2,b3,b4,b5⟩:=hq2;rw[if_neg (by omega),b1]
   exact z0j O P (by omega) (by omega) b5
theorem Ra(O:Ord lt n)(P:Pm n p)(hk:k<n)(U:Up lt p k):∀(f l r:Nat),l<=r ->r<=k ->r - l<=f ->(∀j,j<l ->Lp lt p j k=true) ->(∀j,r<=j ->j<k ->Lp lt p k j=true) ->
  Sat lt n (kas_place p k f l r) fun x=>x<=k/\ (∀j,j<x ->Lp lt p j k=true)/\∀j,x<=j ->j<k ->Lp lt p k j=true
 | 0,l,r,h1,h2,h3,h4,h5=>sO ⟨by omega,h4,fun j a b=>h5 j (by omega) b⟩
 | f+1,l,r,h1,h2,h3,h4,h5=>by
  unfold kas_place;by_cases g:l≥r
  ·rw[if_pos g];exact sO ⟨by omega,h4,fun j a b=>h5 j (by omega) b⟩
  ·rw[if_neg g];have m1:l<=(l+r)/2:=by omega
   have m2:(l+r)/2<r:=by omega
   refine Bj (P.below hk) (P.below (by omega)) (P.ne hk (by omega) (by omega)) ?_
   cases q:lt (p.getD k 0) (p.getD ((l+r)/2) 0) with
   | true=>
    rw[if_pos rfl];refine Ra O P hk U f l _ m1 (by omega) (by omega) h4 fun j a b=> ?_
    rcases Nat.lt_or_ge ((l+r)/2) j with z | z
    ·exact JK O P hk (by omega) (by omega) q (U _ j z b)
    ·obtain rfl:j=(l+r)/2:=by omega
     exact q
   | false=>
    rw[if_neg (by decide)]
    have q' :Lp lt p ((l+r)/2) k=true:=Q8 O P hk (by omega) (by omega) q
    refine Ra O P hk U f _ r (by omega) h2 (by omega) (fun j a=> ?_) h5
    rcases Nat.lt_or_ge j ((l+r)/2) with z | z
    ·exact JK O P (by omega) (by omega) hk (U j _ z (by omega)) q'
    ·obtain rfl:j=(l+r)/2:=by omega
     exact q'
theorem z3o(P:Pm n p)(k d:Nat):Pm n (bubble p k d):=(Array.perm_iff_toList_perm.mp (bubble_perm p k d)).trans P
theorem YG(O:Ord lt n):∀(f:Nat) (p:Array Nat) (k:Nat),Pm n p ->k+f=n ->Up lt p k ->Sat lt n (kas_bin f p k) fun q=>Pm n q/\Up lt q n
 | 0,p,k,P,h,U=>by
  obtain rfl:k=n:=by omega
  exact sO ⟨P,U⟩
 | f+1,p,k,P,h,U=>by
  unfold kas_bin;have hk:k<n:=by omega
  refine Bk ((Ra O P hk U k 0 k (Nat.zero_le _) (zM _) (by omega) (fun j a=>by omega) (fun j a b=>by omega)).imp fun l ⟨a1,a2,a3⟩=> ?_)
  refine YG O f _ (k+1) (z3o P k (k - l)) (by omega) fun i j hij hj=> ?_
  have at' :∀x,(bubble p k (k - l)).getD x 0=if x=l then p.getD k 0 else if l<x/\x<=k then p.getD (x - 1) 0 else p.getD x 0:=fun x=>by
   have e:=getElem?_bubble (xs:=p) (src:=k) (by rw[P.size];exact hk) (k - l) (by omega) x
   rw[show k - (k - l)=l by omega] at e
   split
   ·rename_i q;rw[if_pos q] at e;exact getD_get? e
   ·rename_i q;rw[if_neg q] at e;split
    ·rename_i q2;rw[if_pos q2] at e;exact getD_get? e
    ·rename_i q2;rw[if_neg q2] at e;exact getD_get? e
  show lt _ _=true;rw[at',at'];by_cases e1:i=l
  ·rw[if_pos e1,if_neg (by omega),if_pos (by omega)]
   exact a3 (j - 1) (by omega) (by omega)
  ·rw[if_neg e1];by_cases e2:j=l
   ·rw[if_pos e2,if_neg (by omega)]
    exact a2 i (by omega)
   ·rw[if_neg e2];by_cases e3:l<i/\i<=k
    ·rw[if_pos e3,if_pos (by omega)]
     exact U (i - 1) (j - 1) (by omega) (by omega)
    ·rw[if_neg e3];by_cases e4:l<j/\j<=k
     ·rw[if_pos e4];exact U i (j - 1) (by omega) (by omega)
     ·rw[if_neg e4];exact U i j hij (by omega)
theorem z3p(O:Ord lt n):Sat lt n (kas_sort n) fun q=>Pm n q/\Up lt q n:=by
 unfold kas_sort;have P0:Pm n (List.toArray (List.range n)):=by unfold Pm;exact List.Perm.refl _
 by_cases h0:n=0
 ·subst h0;exact⟨rfl,(by unfold Pm;exact List.Perm.refl _),fun i j _ hj=>absurd hj (Nat.not_lt_zero _)⟩
 ·refine Bk ((zz6 O P0 (by omega)).imp fun r ⟨a1,a2,a3,a4⟩=> ?_)
  by_cases g:r.1<n
  ·rw[if_pos g,show max r.1 1=r.1 by omega]
   exact YG O _ _ _ a1 (by omega) a4
  ·rw[if_neg g];obtain e:r.1=n:=by omega
   exact sO ⟨a1,e ▸ a4⟩
end
end L3
namespace L3
open PySem PySem.Spec PyProof.Rows L2
def mj(lt:Nat ->Nat ->Bool)(is:List Nat):Prop:=is.Pairwise fun i j=>lt i j=true
theorem z4i(P:Pm n q)(U:Up lt q n):mj lt q.toList:=by
 unfold mj;rw[List.pairwise_iff_getElem];intro i j hi hj hij;have hj' :j<q.size:=by simpa using hj
 have hi' :i<q.size:=by omega
 have:=U i j hij (by rw[<- P.size];exact hj')
 unfold Lp at this;rw[Fp hi',Fp hj'] at this;exact this
structure vh (prog:Program) (w:World) (A:Around) (E:bG) (vs:List Value) (lt:Nat ->Nat ->Bool) (T:Heap ->Prop) (κ:SortKind):Prop where
 kind:∀(s:Shared) (Q:SortKind ->Shared ->Prop),T s.heap ->2<=vs.length ->Q κ s ->wpAny (model prog w) A (keyKind' vs.toArray) Q E s
 ask:∀(s:Shared) (i j:Nat) (C:Bool ->Shared ->Prop),T s.heap ->i<vs.length ->j<vs.length ->i≠j ->C (lt i j) s ->W.kas_ask prog w A κ vs i j C s
section
variable{prog:Program}{w:World}{A:Around}{E:bG}{s:Shared}
theorem zj4{a:Addr}{vs:List Value}{lt:Nat ->Nat ->Bool}{T:Heap ->Prop}{κ:SortKind}{n:Nat}{P:PySem.Fin ->Shared ->Prop}(hob:s.heap.get? a=some (seqObj "list" vs.toArray n))(O:Ord lt vs.length)(hT:T s.heap)
  (hst:∀h',(∀x o,s.heap.get? x=some o ->x≠a ->h'.get? x=some o) ->T h') (K:vh prog w A E vs lt T κ) (h64:vs.length<64)
  (h:∀is:List Nat,is.Perm (List.range vs.length) ->mj lt is ->P (.done (.ret .none)) {s with heap:=sortedHeap s.heap a vs (is.map fun i=>vs.getD i Value.none).toArray}):wpAny (model prog w) A (Builtin.«list.sort» ⟨[.ref a],[]⟩) P E s:=by
 have hal:a<s.heap.objs.size:=zG hob;have Bl:vs.length<=sizeLine:=by rw[sizeLine_eq];omega
 rw[list_sort_plain];refine z6 (listItems_at (n:=n) hob rfl ?_);refine z6 (listUpdate_at (n:=n) hob rfl ?_ (by rw[List.size_toArray];exact Bl) (Nat.zero_le _))
 obtain⟨ea,hoa⟩:∃ea,(s.heap.update a (Obj.mapSeq fun _=> #[])).get? a=some (seqObj "list" #[] ea):=⟨_,get?_update_seq hob (fun _=> #[])⟩;refine z6 (seqEpoch_at (n:=ea) hoa rfl ?_);refine z6 (wpAny_newTuple ?_ (by simpa using Bl))
 refine z6 (wpAny_newList ?_ (Nat.zero_le _));refine wpAny_holding (m:=_) ?_;have vm:(((s.heap.update a (Obj.mapSeq fun _=> #[])).push (seqObj "tuple" vs.toArray 0)).push (seqObj "list" #[] 0)).get? a=some (seqObj "list" #[] ea):=by
  refine Eq.trans (zA _ _ _ ?_) (Eq.trans (zA _ _ _ ?_) hoa)
  ·rw[size_push',Heap.size_update];exact zJ (Nat.lt_succ_of_lt hal)
  ·rw[Heap.size_update];exact zJ hal
 have T2:T (((s.heap.update a (Obj.mapSeq fun _=> #[])).push (seqObj "tuple" vs.toArray 0)).push (seqObj "list" #[] 0)):=hst _ fun x o hx hxa=>by
  have hlt:=zG hx;refine Eq.trans (zA _ _ _ ?_) (Eq.trans (zA _ _ _ ?_) (Eq.trans (Heap.get?_update_ne _ _ _ _ hxa) hx))
  ·rw[size_push',Heap.size_update];exact zJ (Nat.lt_succ_of_lt hlt)
  ·rw[Heap.size_update];exact zJ hlt
 show wpAny (model prog w) A _ P E ({s with heap:=((s.heap.update a (Obj.mapSeq fun _=> #[])).push (seqObj "tuple" vs.toArray 0)).push (seqObj "list" #[] 0)}:Shared);dsimp only;have hsv:vs.toArray.size=vs.length:=List.size_toArray ..;by_cases hfew:vs.toArray.size<2
 ·rw[if_pos hfew,if_pos hfew];refine z6 (z7 (α:=_) ?_);rw[StateT.run_pure];refine z6 (z7 (α:=_) ?_);dsimp only;refine z6 (seqEpoch_at (n:=ea) vm rfl ?_);have eo:(arrOf (SortSt.mk' general' (vs.toArray.zip vs.toArray) #[] 7 none)).map (·.2)=((List.range vs.length).map fun i=>vs.getD i Value.none).toArray:=by
   show(vs.toArray.zip vs.toArray).map (·.2)=_;apply Array.toList_inj.mp;apply List.ext_getElem
   ·simp
   ·intro i q1 q2;have:i<vs.length:=by simpa using q2
    simp [this]
  rw[eo];refine z6 (listUpdate_at (n:=ea) vm rfl ?_ (Nat.zero_le _) ?_)
  ·simp only [bne_self_eq_false,Bool.false_eq_true,if_false];refine z7 (α:=_) (h _ (.refl _) ?_);unfold mj;rw[List.pairwise_iff_getElem];intro i j hi hj hij;have:j<vs.length:=by simpa using hj
   omega
  ·simp;omega
 ·rw[if_neg hfew,if_neg hfew];refine z6 (K.kind _ _ T2 (by omega) ?_)
  obtain⟨ok,Pq,Uq⟩:=z3p O;show wpAny _ _ (StateT.run sortRuns' (SortSt.mk' κ (vs.toArray.zip vs.toArray) #[] 7 none)>>=_) _ _ _;refine z6 (wpAny_mono (W.kat_run (Q:=fun st' s' =>∃p:Array Nat,p.size=vs.length/\arrOf st' =p.map (W.kas_item (vs.toArray.zip vs.toArray))/\failedOf st' =none/\p=Bc lt (W.kas_sort vs.length)/\s' ={s with heap:=((s.heap.update a (Obj.mapSeq fun _=> #[])).push (seqObj "tuple" vs.toArray 0)).push (seqObj "list" #[] 0)})
   (G:=fun p s' =>p=Bc lt (W.kas_sort vs.length)/\s' ={s with heap:=((s.heap.update a (Obj.mapSeq fun _=> #[])).push (seqObj "tuple" vs.toArray 0)).push (seqObj "list" #[] 0)})
   rfl (by omega) (by omega) (fun p st' s' a1 a2 a3 a4=>⟨p,a1,a2,a3,a4⟩) ?_) ?_ fun _ _ y=>y)
  ·exact XJ (fun i j C hi hj hij hC=>K.ask _ i j C T2 hi hj hij hC) _ _ ok ⟨rfl,rfl⟩
  ·rintro⟨⟨⟩,st'⟩ s' ⟨p,hp,har,hf,rfl,rfl⟩;dsimp only;have eo:=W.kat_snds (vs:=vs) rfl har;rw[eo];refine z6 (seqEpoch_at (n:=ea) vm rfl ?_);refine z6 (listUpdate_at (n:=ea) vm rfl ?_ (Nat.zero_le _) ?_)
   ·rw[hf];simp only [bne_self_eq_false,Bool.false_eq_true,if_false];exact z7 (α:=_) (h _ Pq (z4i Pq Uq))
   ·exact zN (Nat.le_of_eq (zto hp)) (by omega)
theorem YH{src:Value}{Q:bG}
  (hc:wpAny (model prog w) A.in1 (collect src) (fun vs s1=>∃lt T κ,Ord lt vs.length/\vs.length<64/\vh prog w A.in1.in1 E vs lt T κ/\ (∀h2:Heap,(∀x o,s1.heap.get? x=some o ->h2.get? x=some o) ->T h2)/\
   ∀(l:Addr) (h' :Heap) (is:List Nat) e,s1.heap.objs.size<=l ->is.Perm (List.range vs.length) ->mj lt is ->h'.get? l=some (seqObj "list" (is.map fun i=>vs.getD i Value.none).toArray e) ->(∀b ob,s1.heap.get? b=some ob ->h'.get? b=some ob) ->Q (.ref l) {s1 with heap:=h'}) E s):
  wpAny (model prog w) A (call (.builtin "sorted") [src]) Q E s:=by
 refine Calls.call_function_entry kind_sorted plain_sorted entry_sorted (args_sorted1 _) (show wpAny _ _ (Builtin.«sorted» _) _ _ _ from ?_);unfold Builtin.«sorted»;refine z6 (m:=checkCount "sorted" 1 1 _) (z7 (α:=_) ?_);refine z6 (m:=collect _) (wpAny_mono hc (fun vs s1 rP=> ?_) fun _ _ y=>y);obtain⟨lt,T,κ,O,h64,K,hT2,h⟩:=rP;have Bl:vs.length<=sizeLine:=by rw[sizeLine_eq];omega
 refine z6 (wpAny_newList ?_ Bl);have hoL:(s1.heap.push (seqObj "list" vs.toArray 0)).get? s1.heap.objs.size=some (seqObj "list" vs.toArray 0):=zY _ rfl;refine z6 (m:=holding _ _) (wpAny_holding (vs:= [_]) (wpAny_call_entry slot_list_sort ⟨_,hoL,rfl⟩ entry_list_sort (zj4 (T:=T) hoL O (hT2 _ fun x o e=>zZ _ e) (fun h' k=>hT2 _ fun x o e=>k x o (zZ _ e) (zJ (zG e))) K h64 fun is a1 a2=>⟨_,rfl,?_⟩) (args_list_sort _)));refine z7 (α:=_) ⟨_,rfl,?_⟩;obtain⟨e,he⟩:=z5o (vs:=vs) (out:=(is.map fun i=>vs.getD i Value.none).toArray) hoL;refine h s1.heap.objs.size _ is e (zM _) a1 a2 he fun b ob eb=> ?_;exact z4o (zZ _ eb) (zJ (zG eb))
end
def gh(a b:Str):Bool:=decide (a.cps.toList<b.cps.toList)
theorem YJ(a:Str):gh a a=false:=by unfold gh;simpa using List.lt_irrefl a.cps.toList
theorem YK(h1:gh a b=true)(h2:gh b c=true):gh a c=true:=by
 unfold gh at*;simp only [decide_eq_true_eq] at*;exact List.lt_trans h1 h2
theorem zz5(h1:gh a b=false)(h2:a≠b):gh b a=true:=by
 unfold gh at*;simp only [decide_eq_false_iff_not,decide_eq_true_eq] at*;cases q:decide (b.cps.toList<a.cps.toList) with
 | true=>exact of_decide_eq_true q
 | false=>
  have:=List.le_antisymm (List.not_lt.mp h1) (List.not_lt.mp (of_decide_eq_false q));exact absurd (by cases a;cases b;simp at this;rw[this]) h2
theorem YL(h:gh a b=true):gh b a=false:=by
 cases q:gh b a with
 | false=>rfl
 | true=>have:=YK h q;rw[YJ] at this;cases this
def Bm(xs:List Str)(i j:Nat):Bool:=gh (xs.getD i Str.empty) (xs.getD j Str.empty)
theorem qC{α:Type}{xs:List α}{i:Nat}{d:α}(h:i<xs.length):xs.getD i d=xs[i]:=by
 rw[List.getD_eq_getElem?_getD,List.getElem?_eq_getElem h];rfl
theorem YM{xs:List Str}(nd:xs.Nodup):Ord (Bm xs) xs.length:=by
 have key:=List.pairwise_iff_getElem.mp nd;refine⟨fun i j hi hj hij h=> ?_,fun i j _ _ h=>YL h,fun i j k _ _ _ h1 h2=>YK h1 h2⟩;refine zz5 h ?_;rw[qC hi,qC hj];rcases Nat.lt_or_gt_of_ne hij with q | q
 ·exact key i j hi hj q
 ·exact fun z=>key j i hj hi q z.symm
def pick{α:Type}(d:α)(xs:List α)(is:List Nat):List α:=is.map fun i=>xs.getD i d
theorem YQ{α:Type}{d:α}{xs:List α}{is:List Nat}(h:is.Perm (List.range xs.length)):(pick d xs is).Perm xs:=by
 have e:(List.range xs.length).map (fun i=>xs.getD i d)=xs:=by
  apply List.ext_getElem
  ·simp
  ·intro i q1 q2;simp only [List.getElem_map,List.getElem_range];exact qC q2
 have:=h.map fun i=>xs.getD i d;rw[e] at this;exact this
theorem YS(h:mj (Bm xs) is):(pick Str.empty xs is).Pairwise fun a b=>gh a b=true:=by
 unfold pick;rw[List.pairwise_map];exact h
theorem JL{xs:List Str}{vs:List Value}(r:Vals (xs.map V.str) vs){i:Nat}(hi:i<xs.length):∃t,vs.getD i Value.none= .str (xs.getD i Str.empty) t:=by
 obtain⟨u,e,ru⟩:=r.get (i:=i) (x:= .str (xs.getD i Str.empty)) (by rw[List.getElem?_map,List.getElem?_eq_getElem hi,qC (d:=Str.empty) hi];rfl)
 rw[List.getD_eq_getElem?_getD,e];exact ru
theorem zwg{prog:Program}{w:World}{A:Around}{E:bG}{xs:List Str}{vs:List Value}(r:Vals (xs.map V.str) vs):vh prog w A E vs (Bm xs) (fun _=>True) oneType' :=by
 have hl:vs.length=xs.length:=by have:=r.length;simpa using this.symm
 refine⟨fun s Q _ h2 hQ=>W.kas_kind (T:= .type "str") h2 (fun v hv=> ?_) (by decide) (by decide) hQ,fun s i j C _ hi hj _ hC=> ?_⟩
 ·obtain⟨k,hk,rfl⟩:=List.mem_iff_getElem.mp hv;obtain⟨t,e⟩:=JL r (i:=k) (by omega)
  rw[qC hk] at e;rw[e];exact W.Looks.of_pure rfl
 ·obtain⟨t,e⟩:=JL r (i:=i) (by omega)
  obtain⟨u,e'⟩:=JL r (i:=j) (by omega)
  unfold W.kas_ask;rw[e,e',keyLt'_oneType];exact oneLt_str hC
def vo:Value ->Key | .int i _=> .inl i | .str x _=> .inr x | _=> .inl 0
theorem z1c:∀k v,(iJ prog w).is k v=true ->vo v=k:=fun k v h=>by
 rcases qU h with ⟨i,t,rfl,rfl⟩ | ⟨x,t,rfl,rfl⟩<;>rfl
theorem YT:∀{vs:List Value} {ys:List Str},(∀v∈vs,(∃k,(iJ prog w).is k v=true)/\v.scannable=true) ->vs.map vo=ys.map Sum.inr ->Vals (ys.map V.str) vs
 | [],[],_,_=> .nil
 | [],_::_,_,h=>by cases h
 | _::_,[],_,h=>by cases h
 | v::vs,y::ys,h,e=>by
  obtain⟨⟨k,hk⟩,_⟩:=h v zW;rw[List.map_cons,List.map_cons] at e;injection e with e1 e2;refine .cons ?_ (YT (fun u hu=>h u (zV _ hu)) e2);rcases qU hk with ⟨i,t,rfl,rfl⟩ | ⟨x,t,rfl,rfl⟩
  ·cases e1
  ·have:x=y:=by injection e1
   subst this;exact⟨t,rfl⟩
theorem zwr:∀{ks:List Key} {xs:List Str},ks.Perm (xs.map Sum.inr) ->∃ys:List Str,ks=ys.map Sum.inr/\ys.Perm xs:=fun{ks xs} h=>by
 have e:ks=(ks.map fun k=>match k with | .inr x=>x | .inl _=>Str.empty).map Sum.inr:=by
  rw[List.map_map];refine Eq.trans (List.map_id ks).symm (List.map_congr_left fun k hk=> ?_);obtain⟨x,_,rfl⟩:=zE.mp (h.mem_iff.mp hk)
  rfl
 refine⟨_,e,?_⟩;have:=h.map fun k:Key=>match k with | .inr x=>x | .inl _=>Str.empty
 rw[List.map_map] at this;refine this.trans ?_;rw[show(List.map ((fun k:Key=>match k with | .inr x=>x | .inl _=>Str.empty) ∘ Sum.inr) xs)=xs from List.map_id' xs]
def jr(xs:List Str):List Str:=(fJ (fun i=>(Sum.inr (xs.getD i Str.empty):Key)) xs.length).map fun k=>match k with | .inr x=>x | .inl _=>Str.empty
theorem Rb(xs:List Str):fJ (fun i=>(Sum.inr (xs.getD i Str.empty):Key)) xs.length=(jr xs).map Sum.inr:=by
 unfold jr;rw[List.map_map];refine Eq.trans (List.map_id _).symm (List.map_congr_left fun k hk=> ?_);obtain⟨j,_,rfl⟩:=(Qy _).mp hk
 rfl
theorem nU{xs:List Str}{x:Str}:x∈jr xs↔x∈xs:=by
 have e:x∈jr xs↔ (Sum.inr x:Key)∈fJ (fun i=>(Sum.inr (xs.getD i Str.empty):Key)) xs.length:=by
  rw[Rb,List.mem_map];constructor
  ·exact fun h=>⟨x,h,rfl⟩
  ·rintro⟨y,h,e⟩;have:y=x:=by injection e
   rw[<- this];exact h
 rw[e,Qy];constructor
 ·rintro⟨j,hj,e⟩;have:xs.getD j Str.empty=x:=by injection e
  rw[<- this,qC hj];exact yX hj
 ·intro h;obtain⟨j,hj,e⟩:=List.mem_iff_getElem.mp h;exact⟨j,hj,by rw[qC hj,e]⟩
theorem YW(xs:List Str):(jr xs).Nodup:=by
 have:=Yc (fun i=>(Sum.inr (xs.getD i Str.empty):Key)) xs.length;rw[Rb] at this;exact List.Pairwise.imp (fun{a b} h z=>h (by rw[z])) (List.pairwise_map.mp this)
def sS(P:Program)(w:World)(a:Addr)(xs:List Str):HO:= .ext fun h=>j4 (iJ P w) vo (fX w) h a ((jr xs).map Sum.inr)
def v8(X:Cx):List V ->Hp ->VK ->Prop:=fun vs H Q=>∃(p:Addr) (xs:List Str),vs= [.ref p]/\fO X.K H p (xs.map .str)/\xs.length+1<scanBound/\∀q,H q=none ->Q (.ref q) (upd H q (sS X.prog X.w q xs))
def Fq(X:Cx):List V ->Hp ->VK ->Prop:=fun vs H Q=>∃(q:Addr) (xs:List Str),vs= [.ref q]/\H q=some (sS X.prog X.w q xs)/\ (jr xs).length<64/\
 ∀(l:Addr) (ms:List Str),H l=none ->ms.Perm (jr xs) ->ms.Pairwise (fun a b=>gh a b=true) ->Q (.ref l) (upd H l (.lst (ms.map .str)))
theorem zuf(hc:X.calm=true):cG X (.type "set") (v8 X):=by
 rintro pins s σ H xs us Q I r ⟨p,ns,e0,hq,hb,k⟩;subst e0;obtain⟨u,rfl,rx⟩:=vals1 r;cases rx;obtain⟨its,rv,pl,hz⟩:=I.list hq;have hl:=rv.length;rw[List.length_map] at hl;have hsz:its.toArray.size=ns.length:=by simpa using hl.symm
 refine zo1 (κ:=Key) (knd:=iJ X.prog X.w) (kf:=vo) z1c (val:=fun i=> .inr (ns.getD i Str.empty)) (I.ok.hd hc) pl.isList (fun i v hv=> ?_) (by rw[hsz];exact hb) fun h' tk hS hold=> ?_
 ·have hi:i<ns.length:=by rw[hl];exact(zU.mp (by simpa using hv)).1
  obtain⟨t,e⟩:=JL rv hi;rw[List.getD_eq_getElem?_getD,show its[i]?=some v by simpa using hv] at e
  have e' :v= .str (ns.getD i Str.empty) t:=e;subst e';exact⟨Ux _ _ _ _,rfl⟩
 ·rw[hsz,Rb] at hS;have I2:Inv X pins σ (upd H s.heap.objs.size (sS X.prog X.w s.heap.objs.size ns)) {s with heap:=h',toks:=tk}:=
   I.laid (t' :=tk) hold (zM _) (show bB X.prog X.w _ _ _ (sS X.prog X.w s.heap.objs.size ns) from ⟨hS,by obtain⟨o,_,_,_,e,_⟩:=hS;exact⟨o,e⟩,fun h1 h2 q st=>q.stay st⟩)
  exact⟨.ref s.heap.objs.size,_,I2,rfl,k _ (I.hok.fresh (zM _))⟩
theorem YX(r:Vals xs vs)(h:∀i∈is,i<xs.length):Vals (pick .non xs is) (is.map fun i=>vs.getD i Value.none):=XQ r h
theorem Rf{α β:Type}{f:α ->β}{d:α}{xs:List α}{is:List Nat}{e:β}(h:∀i∈is,i<xs.length):pick e (xs.map f) is=(pick d xs is).map f:=by
 unfold pick;rw[List.map_map];refine List.map_congr_left fun i hi=> ?_;show(xs.map f).getD i e=f (xs.getD i d);rw[qC (by rw[List.length_map];exact h i hi),qC (h i hi),List.getElem_map]
theorem ztm{X:Cx}(hc:X.calm=true):cG X (.builtin "sorted") (Fq X):=by
 rintro pins s σ H xs us Q I r ⟨q,ns,e0,hq,h64,k⟩;subst e0;obtain⟨u,rfl,rx⟩:=vals1 r;cases rx;obtain⟨⟨o,es,ep,t,hg,O⟩,_,_⟩:=I.hok q _ hq;have hlk:es.size=(jr ns).length:=by simpa using O.key.length_eq
 have line:(64:Nat)<=sizeLine:=by decide
 refine YH (zny (by simp [I.ok.hd hc]) hg O (by omega) fun vals h1 d tk hk hm hlt hold=> ?_)
 obtain⟨ys,e1,hp⟩:=zwr hk;have rv:=YT hm e1;have Bf:vals.length=ys.length:=by have:=rv.length;simpa using this.symm
 have hly:ys.length=(jr ns).length:=hp.length_eq;refine⟨Bm ys,_,_,by rw[Bf];exact YM (hp.nodup_iff.mpr (YW ns)),by omega,zwg rv,fun _ _=>trivial,fun l h' is e hle a1 a2 hl sU=> ?_⟩
 have hlt2:s.heap.objs.size<=l:=zN (Nat.le_of_lt hlt) hle;have hix:∀i∈is,i< (ys.map V.str).length:=fun i hi=>by
  rw[List.length_map,<- Bf];exact List.mem_range.mp (a1.mem_iff.mp hi)
 have hrv:=YX rv hix;rw[Rf (d:=Str.empty) (fun i hi=>by have:=hix i hi;rwa [List.length_map] at this)] at hrv
 have hms:(pick Str.empty ys is).Perm (jr ns):=(YQ (by rw[<- Bf];exact a1)).trans hp
 have hlen:((pick Str.empty ys is).map V.str).length<=sizeLine:=by rw[List.length_map,hms.length_eq];omega
 have I2:Inv X pins σ (upd H l (.lst ((pick Str.empty ys is).map .str))) {s with heap:=h',toks:=tk}:=
  I.laid (t' :=tk) (fun b ob eb=>sU b ob (hold b ob eb)) hlt2 (show bB X.prog X.w _ _ _ (.lst ((pick Str.empty ys is).map .str)) from ⟨hlen,_,e,hrv,hl⟩)
 exact⟨.ref l,_,z3k I2 d,rfl,k l _ (I.hok.fresh hlt2) hms (YS a2)⟩
def j9:List D ->Option (List Str)
 | []=>some []
 | .str x::r=>(j9 r).map (x:: ·)
 | _::_=>none
theorem YZ{K:W.Frag}{F:Hp}:∀{ds:List D} {vs:List V} {xs:List Str},ak K F ds vs ->j9 ds=some xs ->vs=xs.map .str
 | [],vs,xs,r,h=>by unfold ak at r;cases h;subst r;rfl
 | d::ds,vs,xs,r,h=>by
  unfold ak at r;obtain⟨v,us,rfl,r1,r⟩:=r;cases d with
  | str x=>
   unfold j9 at h;unfold Rep at r1;subst r1;cases q:j9 ds with
   | none=>rw[q] at h;cases h
   | some ms=>rw[q] at h;cases h;rw[YZ r q];rfl
  | _=>cases h
theorem Rg{K:W.Frag}{F:Hp}:∀xs:List Str,ak K F (xs.map .str) (xs.map V.str)
 | []=>by unfold ak;rfl
 | n::ns=>oW (by unfold Rep;rfl) (Rg ns)
def Bo:List D ->(List D ->Prop) ->Prop:=fun ds P=>match ds with
 | [.lst xs]=>∃ns,j9 xs=some ns/\ns.length<4095/\ (jr ns).length<64/\∀ms:List Str,ms.Pairwise (fun a b=>gh a b=true) ->(∀i,i∈ms↔i∈ns) ->P (ms.map .str)
 | _=>False
section
variable{X:Cx}{F0 H0:Hp}{a e:Expr}{pos p pos2 p2:Pos}{t:aZ}
theorem Y0(hc:X.calm=true)(hg:Gl X "sorted")(hm:X.mg "sorted" =none)(hg2:Gl X "set")(hm2:X.mg "set" =none)(ha:QA X F0 H0 [a] t)(hb:bootBuiltins "sorted" =some (.builtin "sorted"):=by decide+kernel)
  (he:starEach [a] X.env=(false,eval a X.env)::starEach [] X.env:=by rfl) (he2:starEach [.Call (.Name "set" p2) [a] [] pos2] X.env=(false,eval (.Call (.Name "set" p2) [a] [] pos2) X.env)::starEach [] X.env:=by rfl):
  QF X F0 H0 (.Call (.Name "sorted" p) [.Call (.Name "set" p2) [a] [] pos2] [] pos) (rB Bo t):=fun z E cx=>by
 have inner:PE (X.wsh z) (.Call (.Name "set" p2) [a] [] pos2) (CZ (v8 (X.wsh z)) (DN X.K F0 H0 t E)):=Ms (X:=X.wsh z) (zuf hc) hg2 hm2 zwz (ha z E cx) (by decide) (by decide) he rfl
 refine jL (Mp (X:=X.wsh z) (ztm hc) hg hm hb (Vl inner Vk he2) (by decide) (by decide) he2 rfl) fun σ H Q hq1=> ?_
 obtain⟨F,Γ,P,R,h,k⟩:=hq1;refine⟨F,Γ,_,R,h,fun ds Γ1 F1 H1 vs R1 s1 r1 h1=> ?_⟩;unfold Bo at h1;split at h1
 ·unfold ak ak Rep at r1;obtain⟨v,_,rfl,⟨l,us,rfl,hq,rs⟩,rfl⟩:=r1;obtain⟨ns,hns,hlt,hme,h1⟩:=h1;obtain rfl:=YZ rs hns;refine⟨l,ns,rfl,R1.g.seq hq,by unfold scanBound;omega,fun q hq0=> ?_⟩
  refine⟨q,ns,rfl,lV,hme,fun l2 ms hl2 hp hs=> ?_⟩;have R2:SR X.K F0 H0 F1 (upd H1 q (sS X.prog X.w q ns)) σ Γ1:=R1.grow ⟨.refl _,fun b u e=>by rw[c7 (lG (R1.g b u e) hq0)];exact R1.g b u e,fun b u e=>by rw[c7 (lG e hq0)];exact e,fun b o e n=>by rw[e] at n;cases n⟩
  obtain⟨R3,q1,q2,q3,ap⟩:=vO R2 hl2 (Rg (K:=X.K) (F:=F1) ms);exact k _ Γ1 F1 _ l2 _ R3 s1 q1 q2 q3 (Rg ms) ap (h1 ms hs fun i=>hp.mem_iff.trans nU)
 ·exact h1.elim
end
open PySem.AutoSeq1 (wpAny_loadPart')
open PySem.MeetsSeq PySem.MeetsSeq3 in
theorem zwe(l b:Addr)(items items2:Array Value)(n n2:Nat)(dd dd2:Option Addr)(sl sl2:Array (Option Value))(x y:Str)(t u:Tok)(h1:items[0]?=some (.str x t))(h2:items2[0]?=some (.str y u))(hxy:x≠y):
  Meets (Builtin.«list.__eq__.loop» ⟨[.ref l,.ref b,rawInt 0,rawInt 0],[]⟩)
   (fun A R s=>s.heap.get? l=some {cls:= .type "list",dict:=dd,data:= .seq items n,slots:=sl}/\s.heap.get? b=some {cls:= .type "list",dict:=dd2,data:= .seq items2 n2,slots:=sl2}/\
    R (.ok (.ret (.bool (gh x y)))) s):=by
 intro prog w A R s h;obtain⟨hp,g,d,tk,os⟩:=s;obtain⟨hl,hb,h⟩:=h
 wp_walk using wpAny_loadPart' hl,wpAny_loadPart' hb
 have hi1:items[(0:Int).toNat]?=some (.str x t):=h1;have hi2:items2[(0:Int).toNat]?=some (.str y u):=h2;rw[hi1,hi2];have hne:(x.cps.toList==y.cps.toList)=false:=by
  cases q:(x.cps.toList==y.cps.toList) with
  | false=>rfl
  | true=>
   have e:=eq_of_beq q;exact absurd (by cases x;cases y;simp at e;rw[e]) hxy
 refine z6 (SeqRoads2.EqGives.str x y t u prog w _ _ _ _ ?_);rw[hne]
 wp_walk using wpAny_loadPart' hl,wpAny_loadPart' hb
 rw[hi1,hi2];refine z6 (m:=richCompare .Lt _ _) (wpAny_richCompare_same (typeIs_str _ x t) (typeIs_str _ y u) slot_str_lt (call_str_lt ⟨by simp,?_⟩) rfl)
 wp_walk
 exact h
open PySem.MeetsSeq PySem.MeetsSeq3 in
theorem zws(l b:Addr)(items items2:Array Value)(n n2:Nat)(dd dd2:Option Addr)(sl sl2:Array (Option Value))(x y:Str)(t u:Tok)(h1:items[0]?=some (.str x t))(h2:items2[0]?=some (.str y u))(hxy:x≠y):
  Meets (Builtin.«list.__lt__» ⟨[.ref l,.ref b],[]⟩)
   (fun A R s=>s.heap.get? l=some {cls:= .type "list",dict:=dd,data:= .seq items n,slots:=sl}/\s.heap.get? b=some {cls:= .type "list",dict:=dd2,data:= .seq items2 n2,slots:=sl2}/\
    R (.ok (.ret (.bool (gh x y)))) s):=by
 intro prog w A R s h;obtain⟨hp,g,d,tk,os⟩:=s;obtain⟨hl,hb,h⟩:=h;have f3:=AutoSeq1.sub_list_list
 wp_walk using wpAny_loadPart' hl,wpAny_loadPart' hb
 exact⟨plainId_quiet plain_eq_loop _,codeAny_builtin entry_eq_loop (by
  rw[Around.under_plainId plain_eq_loop _];exact zwe l b items items2 n n2 dd dd2 sl sl2 x y t u h1 h2 hxy prog w A R _ ⟨hl,hb,h⟩)⟩
def uF(h:Heap)(v:Value)(x:Str):Prop:=∃a its t,v= .ref a/\PlainL h a its/\its[0]?=some (.str x t)
theorem zxe(h1:uF s.heap v x)(h2:uF s.heap v' y)(hxy:x≠y)(hu:A.units<cLine)(h:Q (gh x y) s):wpAny (model prog w) A (oneLt' true v v') Q E s:=by
 obtain⟨a,its,t,rfl,⟨o,n,e1,c1,d1,s1⟩,z1⟩:=h1;obtain⟨b,its2,u,rfl,⟨o2,n2,e2,c2,d2,s2⟩,z2⟩:=h2;obtain⟨cls,dict,data,slots⟩:=o;obtain⟨cls2,Y4,data2,yI⟩:=o2;cases c1;cases d1;cases s1;cases c2;cases d2;cases s2;rw[oneLt'_eq];simp only [if_true];refine z6 (wpAny_cRoomFor_or (.inr hu) ?_);refine z6 (wpAny_callSpecialIfBound?_slot (T:= "list") ⟨_,e1,rfl⟩ F.slot_list_lt (call_meets F.slot_list_lt ⟨_,e1,rfl⟩ F.entry_list_lt (F.args_list_lt_2 _ _) (zws a b its its2 n n2 none none slots yI x y t u z1 z2 hxy) ⟨e1,e2,?_⟩));exact wpAny_truthy_bool h
theorem uF.up(q:uF h v x)(k:∀b o,h.get? b=some o ->h'.get? b=some o):uF h' v x:=by
 obtain⟨a,its,t,e,p,z⟩:=q;exact⟨a,its,t,e,p.keeps k,z⟩
theorem uF.looks(q:uF h v x):W.Looks M h (typeOf v) (.type "list"):=by
 obtain⟨a,its,t,rfl,⟨o,n,e,c,_,_⟩,_⟩:=q;intro A Q E s k hQ;exact wpAny_typeOf_ref (k _ _ e) (by rw[c];exact hQ)
theorem z1a(hl:vs.length=xs.length)(nd:xs.Nodup)(hu:A.units<cLine):
  vh prog w A E vs (Bm xs) (fun h=>∀i,i<xs.length ->uF h (vs.getD i Value.none) (xs.getD i Str.empty)) oneType' :=by
 refine⟨fun s Q hT h2 hQ=>W.kas_kind (T:= .type "list") h2 (fun v hv=> ?_) (by decide) (by decide) hQ,fun s i j C hT hi hj hij hC=> ?_⟩
 ·obtain⟨k,hk,rfl⟩:=List.mem_iff_getElem.mp hv;have:=hT k (by omega)
  rw[qC hk] at this;exact this.looks
 ·unfold W.kas_ask;rw[keyLt'_oneType];refine zxe (hT i (by omega)) (hT j (by omega)) ?_ hu hC
  have key:=List.pairwise_iff_getElem.mp nd;rw[qC (by omega),qC (by omega)]
  rcases Nat.lt_or_gt_of_ne hij with q | q
  ·exact key i j (by omega) (by omega) q
  ·exact fun z=>key j i (by omega) (by omega) q z.symm
def gl(g:List Str):D:= .lst (g.map .str)
def hdS(g:List Str):Str:=g.headD Str.empty
theorem z5l(I:Inv X pins σ H s)(sF:Same F H)(r:Rep X.K F (gl g) v)(ru:RelV v u)(hg:g≠ []):uF s.heap u (hdS g):=by
 unfold gl Rep at r;obtain⟨a,vs,rfl,hq,rs⟩:=r;cases ru;obtain⟨its,rv,pl,hz⟩:=I.list (sF.seq hq);cases g with
 | nil=>exact absurd rfl hg
 | cons x g=>
  unfold List.map ak Rep at rs;obtain⟨w,us,rfl,rfl,rs⟩:=rs;cases rv with
  | cons r0 rr=>
   obtain⟨t,rfl⟩:=r0;exact⟨a,_,t,rfl,pl,by simp [hdS]⟩
def JM:List D ->(List D ->Prop) ->Prop:=fun ds P=>match ds with
 | [.lst xs]=>∃gs:List (List Str),xs=gs.map gl/\ (∀g∈gs,g≠ [])/\ (gs.map hdS).Nodup/\gs.length<64/\
   ∀ms:List (List Str),ms.Perm gs ->ms.Pairwise (fun a b=>gh (hdS a) (hdS b)=true) ->P (ms.map gl)
 | _=>False
theorem Y5(hu:X.A.units+21<cLine):cG X (.builtin "sorted") (qu X.K JM):=by
 rintro pins s σ H xs us Q I r ⟨F,ds,P,sF,rs,h,k⟩;unfold JM at h;split at h
 ·unfold ak ak Rep at rs;obtain⟨v,_,rfl,⟨p,vs,rfl,hq,rs⟩,rfl⟩:=rs;obtain⟨gs,rfl,hne,nd,h64,h⟩:=h;obtain⟨u,rfl,rx⟩:=vals1 r;cases rx;obtain⟨its,rv,pl,hz⟩:=I.list (sF.seq hq);have hl:=rv.length;have hl2:=gM rs;rw[List.length_map] at hl2;have line:(64:Nat)<=sizeLine:=by decide
  have hT:∀i,i< (gs.map hdS).length ->uF s.heap (its.getD i Value.none) ((gs.map hdS).getD i Str.empty):=fun i hi=>by
   rw[List.length_map] at hi;obtain⟨v,e1,r1⟩:=nD rs (i:=i) (d:=gl gs[i]) (by rw[List.getElem?_map,List.getElem?_eq_getElem hi];rfl)
   obtain⟨u,e2,r2⟩:=rv.get e1;rw[List.getD_eq_getElem?_getD,e2,qC (by rw[List.length_map];exact hi),List.getElem_map]
   exact z5l I sF r1 r2 (hne _ (yX hi))
  have hup:∀x o,s.heap.get? x=some o ->((s.heap.push (seqObj "list" #[] 0)).update s.heap.objs.size (Obj.mapSeq (· ++its.toArray))).get? x=some o:=fun x o e=>by
   have hlt:=zG e;exact Eq.trans (Heap.get?_update_ne _ _ _ _ (zJ hlt)) (zZ _ e)
  refine YH (collect_list (vs:=its) pl.isList ?_ (by omega))
  refine⟨Bm (gs.map hdS),_,_,by rw[show its.length=(gs.map hdS).length by rw[List.length_map];omega];exact YM nd,by omega,z1a (by rw[List.length_map];omega) nd (by show X.A.units+1+1<cLine;omega),fun h2 k2 i hi=>(hT i hi).up fun b o e=>k2 b o (hup b o e),fun l h' is e hle a1 a2 hl' sU=> ?_⟩
  have hsz:s.heap.objs.size<=l:=zN (Nat.le_succ _) (zN (Nat.le_of_eq (((Heap.size_update ..).trans (size_push' ..)).symm)) hle);have hix:∀i∈is,i<its.length:=fun i hi=>List.mem_range.mp (a1.mem_iff.mp hi);have hrv:=YX rv (is:=is) fun i hi=>by have:=hix i hi;omega
  have hrs:ak X.K F (pick .non (gs.map gl) is) (pick .non vs is):=XR rs fun i hi=>by rw[List.length_map];have:=hix i hi;omega
  rw[Rf (d:= []) (fun i hi=>by have:=hix i hi;omega)] at hrs
  have hpm:(pick [] gs is).Perm gs:=YQ (by rw[show gs.length=its.length by omega];exact a1)
  have hlen:(pick V.non vs is).length<=sizeLine:=by
   unfold pick;rw[List.length_map,a1.length_eq,List.length_range];omega
  have I2:Inv X pins σ (upd H l (.lst (pick .non vs is))) {s with heap:=h',toks:=s.toks}:=
   I.laid (t' :=s.toks) (fun b ob eb=>sU b ob (hup b ob eb)) hsz (show bB X.prog X.w _ _ _ (.lst (pick .non vs is)) from ⟨hlen,_,e,hrv,hl'⟩)
  refine⟨.ref l,_,I2,rfl,k _ _ l hrs (I.hok.fresh hsz) (h _ hpm ?_)⟩;have hp:=YS a2;rw[Rf (d:= []) (fun i hi=>by have:=hix i hi;omega)] at hp
  exact List.pairwise_map.mp hp
 ·exact h.elim
end L3
namespace L3
open PySem PySem.Spec PyProof.Rows L2
open PySem.AutoSeq1 (wpAny_loadPart')
theorem zho(l:Addr)(items:Array Value)(n:Nat)(b:Addr)(items2:Array Value)(n2:Nat)(sl:Array (Option Value))(hc0:¬(!items.isEmpty&&Builtin.List.listTooLong (items.size+items2.size))=true)(hc1:items.size<=sizeLine)(hs2:items.size+items2.size<=sizeLine+1):
  Meets (Builtin.«list.extend» ⟨[.ref l,.ref b],[]⟩) (fun _ R s=>s.heap.get? l=some {cls:= .type "list",dict:=none,data:= .seq items n,slots:= #[]}/\s.heap.get? b=some {cls:= .type "list",dict:=none,data:= .seq items2 n2,slots:=sl}/\R (.ok (.ret Value.none)) {s with heap:=s.heap.update l (Obj.mapSeq fun x=>x++items2),toks:=s.toks}):=
 .of_wp fun prog w A R s h=>by
  obtain⟨hp,g,d,tk,os⟩:=s;obtain⟨hl,hb,h⟩:=h;have f1:=AutoSeq1.idx_int;have f2:=AutoSeq1.sub_tuple_tuple;have f3:=AutoSeq1.sub_list_list;have f4:=AutoSeq1.sub_tuple_list;have f5:=AutoSeq1.sub_list_tuple;have hz' :(items++items2).size<=sizeLine+1:=by rw[Array.size_append];exact hs2
  wp_walk using (wpAny_updateSeq hl rfl (hz:=hc1) (_hz' :=hz')),wpAny_loadPart' hl,wpAny_loadPart' hb;exact⟨_,rfl,h⟩
theorem zu7:PB X "list.extend" PL:=by
 intro pins s σ F H l vs args xs ds us P Q I hl sF rs ra rv h k;unfold PL at h;split at h
 ·unfold ak ak Rep at ra;obtain⟨v,_,rfl,⟨b,zs,rfl,hq,rz⟩,rfl⟩:=ra;obtain⟨u,rfl,ru⟩:=vals1 rv;cases ru;obtain⟨z,its,n,r,hle,e⟩:=I.lstM hl;obtain⟨its2,r2,⟨o,n2,e2,c2,d2,s2⟩,hz2⟩:=I.list (sF.seq hq);obtain⟨cls,dict,data,slots⟩:=o;cases c2;cases d2;cases s2;have aa1:=r2.length;have l1:=gM rs;have l2:=gM rz;have hsz:its.toArray.size+its2.toArray.size<=sizeLine:=by rw[List.size_toArray,List.size_toArray];omega
  have Ft:¬(!its.toArray.isEmpty&&Builtin.List.listTooLong (its.toArray.size+its2.toArray.size))=true:=by
   rw[zxc hsz,Bool.and_false];exact zH
  refine call_meets PySem.F.slot_list_extend ⟨_,e,rfl⟩ PySem.F.entry_list_extend (PySem.F.args_list_extend_2 _ _)
   (zho l its.toArray n b its2.toArray n2 slots Ft (by rw[List.size_toArray];omega) (by omega)) ⟨e,e2,?_⟩
  refine⟨.non,_,I.lset (its' :=its++its2) hl e (by simp) (r.append r2) ?_,rfl,k _ _ (xH rs rz) h.2⟩
  rw[List.length_append];omega
 ·exact h.elim
def Rh:List D ->(List D ->Prop) ->Prop:=fun ds P=>match ds with | [.dic ks _]=>P (ks.map cM) | _=>False
theorem Ri:∀{xs:List V} {us:List Value},xs.length=us.length ->(∀(i:Nat) (x:V) (u:Value),xs[i]?=some x ->us[i]?=some u ->RelV x u) ->Vals xs us
 | [],[],_,_=> .nil
 | [],_::_,h,_=>by cases h
 | _::_,[],h,_=>by cases h
 | x::xs,u::us,h,k=> .cons (k 0 x u rfl rfl) (Ri (by simpa using h) fun i y w e1 e2=>k (i+1) y w (by simpa using e1) (by simpa using e2))
theorem Fv:∀{kvs:List (κ×V)} {ws:List (κ×Value)} {i:Nat} {p:κ×Value},KV kvs ws ->ws[i]?=some p ->∃v,kvs[i]?=some (p.1,v)/\RelV v p.2
 | _,_,_,_,.nil,e=>by simp at e
 | _,_,0,p,.cons (a:=q) h _,e=>by
  simp at e;subst e;obtain⟨h1,h2⟩:=h;exact⟨q.2,by rw[<- h1];rfl,h2⟩
 | _,_,i+1,p,.cons _ r,e=>by
  obtain⟨v,e1,e2⟩:=Fv (i:=i) r (by simpa using e)
  exact⟨v,by simpa using e1,e2⟩
theorem JN:∀{ks:List κ} {vs:List V} {i:Nat} {k:κ} {v:V},(ks.zip vs)[i]?=some (k,v) ->ks[i]?=some k/\vs[i]?=some v:=fun{ks vs i k v} e=>by
 rw[List.getElem?_zip_eq_some] at e;exact e
theorem z1u(hc:X.calm=true):cG X (.type "list") (qu X.K Rh):=by
 rintro pins s σ H xs us Q I r ⟨F,ds,P,sF,rs,h,k⟩;unfold Rh at h;split at h
 ·rename_i ks ds';unfold ak ak Rep at rs;obtain⟨v,_,rfl,⟨a,vs,rfl,hq,hkl,rs⟩,rfl⟩:=rs;obtain⟨u,rfl,rx⟩:=vals1 r;cases rx;obtain⟨hz,hsm,ws,kv,hd⟩:=Dj I.hok (sF _ _ hq);obtain⟨ob,es,ep,hd⟩:=id hd;have hm:s.heap.DictAt (iJ X.prog X.w) a ws ep:=⟨ob,es,hd⟩;have Fw:(ks.zip vs).length=ws.length:=kv.length;have hlk:ks.length=ws.length:=by rw[<- Fw,List.length_zip,<- hkl,Nat.min_self]
  rw[Fw] at hz;refine W.kdl_call (W.kdl_dict (knd:=iJ X.prog X.w) (kvs:=ws) (ep:=ep) hsm) (I.ok.hd hc) hm hz fun h' tk acc c hold hg hac=> ?_;have hv:Vals (ks.map kV) acc.toList:=by
   refine Ri (by rw[List.length_map,Array.length_toList];exact hlk.trans hac.1.symm) fun i x u e1 e2=> ?_
   obtain⟨k,w,e3,e4⟩:=hac.2 i u (by rw[<- Array.getElem?_toList];exact e2)
   obtain⟨v5,e5,_⟩:=Fv kv e3;have e5:=(JN e5).1;rw[List.getElem?_map,e5] at e1;cases e1;rcases qU e4 with ⟨j,t,rfl,rfl⟩ | ⟨x,t,rfl,rfl⟩
   ·exact⟨t,rfl⟩
   ·exact⟨t,rfl⟩
  have I2:Inv X pins σ (upd H s.heap.objs.size (.lst (ks.map kV))) {s with heap:=h',toks:=tk}:=
   I.laid (t' :=tk) hold (zM _) (show bB X.prog X.w _ _ _ (.lst (ks.map kV)) from ⟨by rw[List.length_map];omega,_,c,hv,by rw[Array.toArray_toList];exact hg⟩)
  exact⟨.ref s.heap.objs.size,_,I2,rfl,k _ _ _ (Iu ks) (I.hok.fresh (zM _)) h⟩
 ·exact h.elim
end L3
namespace L3
open PySem PySem.Spec PyProof.Rows L2
theorem Rj(I:Inv X pins σ H s)(e:H a=some (.dK kvs))(ho:s.heap.get? a=some o):Inv X pins σ (upd H a (.frz o (.dK kvs))) s:=by
 have ne:∀b u,H b=some u ->(∀kvs,u≠ .dK kvs) ->b≠a:=fun b u q n z=>by rw[z,e] at q;cases q;exact n _ rfl
 refine I.un (h' :=s.heap) (t' :=s.toks) ⟨fun _ _ q _ _ _=>q,fun _ ob q _ _ _=>⟨ob.slots,q⟩,fun b ob q n _=> ?_,fun b ob q _=>⟨ob,q⟩,fun b xs q=> ?_,fun b ob u q=> ?_,fun b ps q=>⟨#[],?_⟩⟩ fun b u q=> ?_
 ·rw[c7 (fun z=>by rw[z,e] at n;cases n)];exact n
 ·rw[c7 (ne b _ q fun _ z=>by cases z)];exact q
 ·rw[c7 (ne b _ q fun _ z=>by cases z)];exact q
 ·rw[c7 (ne b _ q fun _ z=>by cases z)];simpa using q
 ·by_cases hb:b=a
  ·subst hb;rw[lV] at q;cases q;refine⟨ho,?_⟩;exact(show bB X.prog X.w H s.heap b (.dK kvs) from I.hok b _ e)
  ·rw[c7 hb] at q;exact(I.hok b u q).stay (fun _ _ _ z=>z) (fun c z=>by rw[c7 (ne c _ z fun _ w=>by cases w)];exact z) fun c xs z=>by rw[c7 (ne c _ z fun _ w=>by cases w)];exact z
def Rk(a:Addr)(o:Obj)(kvs:List (Key×V)):It:=⟨fun i H=>H a=some (.frz o (.dK kvs))/\i<kvs.length,fun i H x H' =>H' =H/\∃k,kvs[i]?=some (k,x),fun i H=>H a=some (.frz o (.dK kvs))/\kvs.length<=i⟩
theorem Y6(I:Inv X pins σ H s)(e:H a=some (.frz o (.dK kvs)))(JQ:∃es,o.data= .dict es ep):∃ws,KV kvs ws/\s.heap.DictAt (iJ X.prog X.w) a ws ep:=by
 obtain⟨ho,_,_,ws,kv,o',es,ep',h1,h2,h3,h4⟩:=(show bB X.prog X.w H s.heap a (.frz o (.dK kvs)) from I.hok a _ e);rw[ho] at h1;cases h1;obtain⟨es',h5⟩:=JQ;rw[h3] at h5;cases h5;exact⟨ws,kv,o,es,ho,h2,h3,h4⟩
theorem zug{P:Program}{w:World}{K:W.Frag}{tg:Expr}(a it:Addr)(o:Obj)(kvs:List (Key×V))(ep:Nat)(JQ:∃es,o.data= .dict es ep):Turn P w K tg (Rk a o kvs) [it] it (fun i h=>h.IsValIter it a i kvs.length ep) where
 mem:=by simp
 obj:=fun i h st b hb=>by
  obtain rfl:b=it:=by simpa using hb
  obtain⟨o,e,c,d⟩:=st;exact⟨o,e,fun v z=>by rw[d] at z;cases z⟩
 keep:=fun i h h' st k=>st.at fun o e=>k it (by simp) o e
 item:=by
  intro X hP hw hK hc i pins s σ H E I hf st hg;subst hP hw hK;obtain⟨hq,hx⟩:=hg;obtain⟨f0,f1,f2,f3,f4,f5⟩:=hf it (by simp)
  obtain⟨ws,kv,hd⟩:=Y6 I hq JQ;have hl:=kv.length;rw[hl] at st hx;obtain⟨⟨k,u⟩,hw⟩:∃p,ws[i]?=some p:=⟨ws[i],by simp [hx]⟩
  obtain⟨v,hv,rv⟩:=Fv kv hw;refine wpAny_pyNext_values_item st hd hw fun h' hit' sb=> ?_;have I1:Inv X pins σ H {s with heap:=h'}:=I.turned (t' :=s.toks) (fun b o hb e=>(sb.2 b hb).trans e) f0 f1 f3 f4 f5;obtain⟨o',e,c,d⟩:=id hit';exact⟨u,rfl,Ii (s:={s with heap:=h'}) e c d (by decide) ⟨v,H,I1,rv,⟨rfl,k,hv⟩,by rw[hl];exact hit',fun b hb=>(hf b hb).1⟩⟩
 done:=by
  intro X hP hw hK hc i pins s σ H E I hf st hg;subst hP hw hK;obtain⟨hq,hx⟩:=hg;obtain⟨f0,f1,f2,f3,f4,f5⟩:=hf it (by simp)
  obtain⟨ws,kv,hd⟩:=Y6 I hq JQ;have hl:=kv.length;rw[hl] at st hx;exact wpAny_pyNext_values_end (I.ok.hd hc) st hd (List.getElem?_eq_none hx) fun h' eb=>⟨rfl,I.turned (t' :=s.toks) (fun b o hb e=>eb b o hb e) f0 f1 f3 f4 f5⟩
 self:=fun _ _ _ _ _ st h=>wpAny_pyIter_valiter st h
def Fy(te:TE):TI:=fun σ H R=>te σ H fun v H1=>∃a kvs,v= .ref a/\H1 a=some (.dK kvs)/\ (kvs.length<=sizeLine ->∀o,R (Rk a o kvs) (upd H1 a (.frz o (.dK kvs))))
theorem zte(he:PE X e te)(hbase:attributeBase e "values" X.env (eval e X.env)=eval e X.env:=by rfl)(hline:(apos.endLine==cpos.line)=true:=by rfl):
  PI X tg (.Call (.Attribute e "values" apos) [] [] cpos) (Fy te):=by
 intro pins s σ H R I h;refine wpAny_Call_method0_late hbase hline (bF (he pins s σ H _ I h) fun v s1 hq1=> ?_);obtain⟨x,H1,I1,r1,a,kvs,ex,ea,q⟩:=hq1;subst ex;obtain rfl:v=Value.ref a:=r1;obtain⟨hT,hN,hsm⟩:=V5 I1 (.inl ⟨kvs,.inl ea⟩);refine⟨"dict","dict.values",PySem.F.plainAttrs_dict,PySem.F.slot_dict_values,PySem.F.type_dict_values,hT,hN,Calls.callWith_builtin rfl (PySem.evalArgs_none ?_)⟩;obtain⟨hz,_,ws,kv,dd⟩:=Dj I1.hok ea;refine call_meetsIn PySem.F.slot_dict_values hT PySem.F.entry_dict_values (PySem.F.args_dict_values_1 _) (meets_dict_values (iJ X.prog X.w) a hsm) ⟨⟨ws,dd⟩,?_⟩;obtain⟨o,es,ep,h1,h2,h3,h4⟩:=id dd;have hm:s1.heap.DictAt (iJ X.prog X.w) a ws ep:=⟨o,es,h1,h2,h3,h4⟩;have I2:=Rj I1 ea h1;have vw:(s1.heap.push {cls:= .type "dict_values",data:= .fields #[.ref a]}).IsValuesView s1.heap.objs.size a:=⟨_,zY _ rfl,rfl,rfl⟩;have I3:Inv X pins σ (upd H1 a (.frz o (.dK kvs))) {s1 with heap:=s1.heap.push {cls:= .type "dict_values",data:= .fields #[.ref a]},toks:=s1.toks}:=I2.kept fun b o e=>zZ _ e;refine wpAny_pyIter_values vw (hm.push _) ?_;refine⟨_,[(s1.heap.push {cls:= .type "dict_values",data:= .fields #[.ref a]}).objs.size],_,_,_,rfl,I3.kept (t' :=s1.toks) fun b o e=>zZ _ e,zug a _ o kvs ep ⟨es,h3⟩,?_,fun b hb=> ?_,q hz o⟩
 ·rw[kv.length];exact⟨_,zY _ rfl,rfl,rfl⟩
 ·obtain rfl:b=(s1.heap.push {cls:= .type "dict_values",data:= .fields #[.ref a]}).objs.size:=by simpa using hb
  exact I3.fpOk (zM _) (I3.hok.fresh (zM _))
section
variable{K:W.Frag}{F0 H0 F H:Hp}{σ:St}{Γ:List Slot}
theorem SR.chg(R:SR K F0 H0 F H σ Γ)(h2:F a=none)(h3:H0 a=none)(ap:Apart σ Γ a):SR K F0 H0 F (L2.upd H a u) σ Γ:=by
 refine⟨⟨R.gr.f,fun b u q=> ?_,fun b u q=> ?_,fun b o q n=>R.gr.n b o q n⟩,R.len,fun j s' q=> ?_,R.ap⟩
 ·rw[c7 (lG q h2)];exact R.g b u q
 ·rw[c7 (lG q h3)];exact R.gr.h b u q
 ·obtain⟨o,p1,p2⟩:=R.sl j s' q;refine⟨o,p1,Du p2 (.refl _) fun b hb=>⟨(uo p2 hb).1,fun u q' => ?_⟩⟩;have:b≠a:=fun z=>by subst z;exact ap j ⟨s',o,q,p1,hb⟩
  rw[c7 this];exact q'
end
theorem zwm{K:W.Frag}{F:Hp}{a:Addr}{o:Obj}{ks:List Key}{vs:List V}{xs:List D}(e:F a=some (.frz o (.dK (ks.zip vs))))(hkl:ks.length=vs.length)(rs:ak K F xs vs)(hz:(ks.zip vs).length<=sizeLine):yg K F Am (Rk a o (ks.zip vs)) xs:=by
 have hl:=gM rs;have hlz:(ks.zip vs).length=vs.length:=by rw[List.length_zip,hkl,Nat.min_self]
 refine⟨by omega,fun i H2 F2 s2 s3 _=>⟨fun q=>⟨s3 _ _ (s2 _ _ e),by omega⟩,fun d hd=> ?_⟩⟩
 obtain⟨v,hv,rv⟩:=nD rs hd;have hi:i<vs.length:=(zU.mp hv).1;refine⟨⟨s3 _ _ (s2 _ _ e),by omega⟩,fun y H' z=> ?_⟩
 obtain⟨rfl,k,z⟩:=z;have:=(JN z).2;rw[hv] at this;cases this;exact⟨F2,Gr.refl s3,rv.up s2⟩
def Y7(tn:jj):aZ:=fun Γ P E=>tn Γ (fun t Γ1=>match t with | .dic _ ts=>P (d8 ts) Γ1 | _=>False) E
section
variable{X:Cx}{F0 H0:Hp}{e tg:Expr}{apos cpos:Pos}{tn:jj}
open Classical in
theorem ztv(he:QN X F0 H0 e tn)(hbase:attributeBase e "values" X.env (eval e X.env)=eval e X.env:=by rfl)(hline:(apos.endLine==cpos.line)=true:=by rfl):
  QI X F0 H0 tg (.Call (.Attribute e "values" apos) [] [] cpos) (Y7 tn):=fun z E cx=>Ek (zte (X:=X.wsh z) (he z E cx) hbase hline) fun σ H R hq2=>by obtain⟨F,Γ,P,S,q,k⟩:=hq2;exact⟨F,Γ,_,S,q,fun t Γ1 F1 H1 v as R1 s1 nd hn r h1=>by
  split at h1
  ·rename_i ks ts;unfold TR at r;obtain⟨a,vs,bs,rfl,rfl,ea,hkl,r⟩:=r;refine⟨a,_,rfl,ea,fun hz o=> ?_⟩;have nab:a∉bs:=(List.nodup_cons.mp nd).1;have sF:Same F1 (fun b=>if b=a then some (.frz o (.dK (ks.zip vs))) else if b∈bs then H1 b else F1 b):=fun b u e=>by
    show(if b=a then some (.frz o (.dK (ks.zip vs))) else if b∈bs then H1 b else F1 b)=some u;rw[if_neg (fun z=>by rw[z,(hn a List.mem_cons_self).1] at e;cases e),if_neg (fun hb=>by rw[(hn b (List.mem_cons_of_mem _ hb)).1] at e;cases e)]
    exact e
   have R2:=(R1.chg (u:= .frz o (.dK (ks.zip vs))) (hn a zW).1 (hn a zW).2.1 (hn a zW).2.2).frzM sF (fun b u e=> ?_) (fun b u e n=> ?_)
   ·refine k _ Γ1 _ _ _ R2 (s1.trans sF) (zwm ?_ hkl (cL.rep sF ts vs bs (fun c hc u hu=> ?_) r) hz) h1
    ·show(if a=a then some (HO.frz o (.dK (ks.zip vs))) else if a∈bs then H1 a else F1 a)=some (HO.frz o (.dK (ks.zip vs)));rw[if_pos rfl]
    ·show(if c=a then some (.frz o (.dK (ks.zip vs))) else if c∈bs then H1 c else F1 c)=some u;rw[if_neg (show¬c=a from fun z=>nab (z ▸ hc)),if_pos hc];exact hu
   ·have e' :(if b=a then some (.frz o (.dK (ks.zip vs))) else if b∈bs then H1 b else F1 b)=some u:=e;by_cases hb:b=a
    ·subst hb;rw[if_pos rfl] at e';rw[lV];exact e'
    ·rw[if_neg hb] at e';rw[c7 hb];split at e'
     ·exact e'
     ·exact R1.g b u e'
   ·have e' :(if b=a then some (.frz o (.dK (ks.zip vs))) else if b∈bs then H1 b else F1 b)=some u:=e;by_cases hb:b=a
    ·subst hb;exact(hn b zW).2
    ·rw[if_neg hb] at e';split at e'
     ·rename_i hm;exact(hn b (zV _ hm)).2
     ·rw[n] at e';cases e'
  ·exact h1.elim⟩
end
theorem yJ{K:W.Frag}{F:Hp}{k:Key}{v:V}(h:Rep K F (cM k) v):v=kV k:=by
 cases k with
 | inl i=>unfold cM Rep at h;exact h
 | inr x=>unfold cM Rep at h;exact h
theorem Y8(h:ks.length=vs.length)(k:Key):(dF (ks.zip vs) k).isSome=iW ks k:=by
 unfold dF iW;rw[Option.isSome_map];induction ks generalizing vs with
 | nil=>rfl
 | cons k' ks ih=>
  cases vs with
  | nil=>cases h
  | cons v vs=>
   rw[List.zip_cons_cons,List.find?_cons,List.any_cons];by_cases q:k' =k
   ·simp [q]
   ·simp only [q,decide_false,Bool.false_or];exact ih (by simpa using h)
theorem z3u{ks:List Key}{vs:List V}{k:Key}{v:V}{q:Nat}(nd:ks.Nodup)(h1:ks[q]?=some k)(h2:vs[q]?=some v):dF (ks.zip vs) k=some v:=by
 unfold dF;induction ks generalizing vs q with
 | nil=>simp at h1
 | cons k' ks ih=>
  cases vs with
  | nil=>simp at h2
  | cons u vs=>
   rw[List.zip_cons_cons,List.find?_cons];cases q with
   | zero=>
    have e1:k' =k:=by simpa using h1
    have e2:u=v:=by simpa using h2
    simp [e1,e2]
   | succ q=>
    have hm:k∈ks:=yZ (by simpa using h1)
    have ne:k' ≠k:=fun z=>(List.nodup_cons.mp nd).1 (z ▸ hm);simp only [ne,decide_false];exact ih (List.nodup_cons.mp nd).2 (by simpa using h1) (by simpa using h2)
def FJ(i:Nat)(tk:aH):TT2:=fun Γ P E=>tk Γ (fun kd Γ1=>∃k as ks ts,kd=cM k/\Γ1[i]?=some (.tr as (.dic ks ts))/\P (!iW ks k) Γ1) E
def FN(i j:Nat)(tn:jj):au:=fun D Γ E=>tn Γ (fun t Γ1=>∃k as ks ts,Γ1[j]?=some (.pu (cM k))/\Γ1[i]?=some (.tr as (.dic ks ts))/\iW ks k=false/\ks.length<sizeLine/\∀cs,D.nx (Γ1.set i (.tr (as++cs) (.dic (ks++ [k]) (ts++ [t]))))) E
def FP(i j l:Nat)(tv:aH):au:=fun D Γ E=>tv Γ (fun d Γ1=>∃k k2 as ks ts q yK xs,Γ1[j]?=some (.pu (cM k))/\Γ1[l]?=some (.pu (cM k2))/\Γ1[i]?=some (.tr as (.dic ks ts))/\ks.Nodup/\ks[q]?=some k/\
 ts[q]?=some (.dic yK (xs.map .leaf))/\yK.length<sizeLine/\D.nx (Γ1.set i (.tr as (.dic ks (ts.set q (.dic (eF yK k2) ((bZ yK xs k2 d).map .leaf))))))) E
section
variable{X:Cx}{F0 H0:Hp}{ke value:Expr}{pos npos nW v9 pos' pos2:Pos}{x y w:Str}{i j l:Nat}{tk tv:aH}{tn:jj}
theorem z4g(hu:X.A.units+1<cLine)(hk:QE X F0 H0 ke tk)(hN:X.N[i]?=some x)(hv:oO X.env.scope x)(hd:(x==("__debug__" :Str))=false:=by decide)(hcd:(x==("__classdict__" :Str))=false:=by decide)
  (hb:behindInMarks .NotIn (.Name x npos)=false:=by with_unfolding_all rfl):
  QT X F0 H0 (.Compare ke [.NotIn] [.Name x npos] pos) (FJ i tk):=fun z E cx=>
 DP (U3 (X:=X.wsh z) (zue (X:=X.wsh z) hu (hk z E cx) (rD (X:=X.wsh z) (i:=i) hN hv hd hcd)) hb) fun σ H Q hq1=>by obtain⟨F,Γ,P,R,h,k⟩:=hq1;exact⟨F,Γ,_,R,h,fun kd Γ1 F1 H1 v R1 s1 rk hq2=>by
  obtain⟨kk,as,ks,ts,e1,e2,h1⟩:=hq2;subst e1;have ev:=yJ rk;subst ev;obtain⟨o,e3,w,rfl,nd,hn,r⟩:=R1.sl i _ e2;unfold TR at r;obtain⟨a,vs,bs,rfl,rfl,ea,hkl,r⟩:=r;refine⟨.ref a,e3,a,_,rfl,iB.k (k:=kk) ea,_,rfl,?_⟩;rw[Y8 hkl];exact k _ _ _ _ R1 s1 h1⟩
theorem z2v(hu:X.A.units+1<cLine)(hN:X.N[i]?=some x)(hv:oO X.env.scope x)(Rm:X.N[j]?=some y)(hv2:oO X.env.scope y)(hval:QN X F0 H0 value tn)(hs:swapsWith value (some (.Subscript (.Name x npos) (.Name y nW) pos')) pos.line X.env=pure false:=by rfl)
  (hd:(x==("__debug__" :Str))=false:=by decide) (hcd:(x==("__classdict__" :Str))=false:=by decide) (hd2:(y==("__debug__" :Str))=false:=by decide) (yL:(y==("__classdict__" :Str))=false:=by decide):
  QS X F0 H0 (.Assign [.Subscript (.Name x npos) (.Name y nW) pos'] value pos) (FN i j tn):=fun z E cx=>
 mK (M9 (X:=X.wsh z) hu (rD (X:=X.wsh z) (i:=i) hN hv hd hcd) (rD (X:=X.wsh z) (i:=j) Rm hv2 hd2 yL) (hval z E cx) hs) fun Dn σ H rN=>by obtain⟨F,Γ,D2,R,h,k⟩:=rN;exact⟨F,Γ,_,R,h,fun t Γ1 F1 H1 v cs R1 s1 ndc hnc rt oY=>by
  obtain⟨kk,as,ks,ts,e1,e2,hh,hl,q⟩:=oY;obtain⟨o,e3,w,rfl,nd,hn,r⟩:=R1.sl i _ e2;obtain⟨o2,e4,w2,rfl,rk⟩:=R1.sl j _ e1;have ev:=yJ rk;subst ev;unfold TR at r;obtain⟨a,vs,bs,rfl,rfl,ea,hkl,r⟩:=r;refine⟨.ref a,e3,kV kk,e4,a,_,rfl,nA.k (k:=kk) ea (by rw[List.length_zip,<- hkl,Nat.min_self];exact hl),?_⟩
  have own:∀b∈a::bs,iQ Γ1 σ i b:=fun b hb=>⟨_,_,e2,e3,hb⟩;have dis:∀b∈a::bs,b∉cs:=fun b hb hc=>(hnc b hc).2.2 i (own b hb);have nab:a∉bs:=(List.nodup_cons.mp nd).1;rw[Q5 hkl];unfold eF bZ;rw[if_neg (by rw[hh];decide),if_neg (by rw[hh];decide)]
  refine k.nx _ _ _ _ (R1.wrT e2 e3 (show d9 (Slot.tr (a::bs) (.dic ks ts)) (some (.ref a)) a from zW) (t:= .tr (a::bs++cs) (.dic (ks++ [kk]) (ts++ [t]))) ⟨_,rfl,?_,fun b hb=> ?_,?_⟩ fun b hb=> ?_) s1 (q cs)
  ·exact List.nodup_append.mpr ⟨nd,ndc,fun x hx y hy e=>dis x hx (e ▸ hy)⟩
  ·rcases zR.mp hb with hb | hb
   ·exact hn b hb
   ·exact⟨(hnc b hb).1,(hnc b hb).2.1⟩
  ·unfold TR;refine⟨a,vs++ [v],bs++cs,rfl,rfl,lV,by simp [hkl],?_⟩
   have m:=cL.move (H' :=upd H1 a (.dK ((ks++ [kk]).zip (vs++ [v])))) (.refl _) ts vs bs (fun b hb u q=>by rw[c7 (show b≠a from fun z=>nab (z ▸ hb))];exact q) r
   have l:=TR.move (H' :=upd H1 a (.dK ((ks++ [kk]).zip (vs++ [v])))) (.refl _) t v cs (fun b hb u q=>by rw[c7 (show b≠a from fun z=>dis a List.mem_cons_self (z ▸ hb))];exact q) rt
   exact Yp m (z05 l)
  ·rcases zR.mp hb with hb | hb
   ·exact .inl hb
   ·exact .inr (hnc b hb).2.2⟩
theorem z2s(hu:X.A.units+1<cLine)(hN:X.N[i]?=some x)(hv:oO X.env.scope x)(Rm:X.N[j]?=some y)(hv2:oO X.env.scope y)(hN3:X.N[l]?=some w)(hv3:oO X.env.scope w)(hval:QE X F0 H0 value tv)
  (hs:swapsWith value (some (.Subscript (.Subscript (.Name x npos) (.Name y nW) pos2) (.Name w v9) pos')) pos.line X.env=pure false:=by rfl)
  (hd:(x==("__debug__" :Str))=false:=by decide) (hcd:(x==("__classdict__" :Str))=false:=by decide) (hd2:(y==("__debug__" :Str))=false:=by decide) (yL:(y==("__classdict__" :Str))=false:=by decide)
  (hd3:(w==("__debug__" :Str))=false:=by decide) (Rn:(w==("__classdict__" :Str))=false:=by decide) (hns:uW (.Name y nW):=by exact fun _ _=>rfl):
  QS X F0 H0 (.Assign [.Subscript (.Subscript (.Name x npos) (.Name y nW) pos2) (.Name w v9) pos'] value pos) (FP i j l tv):=fun z E cx=>
 mK (M9 (X:=X.wsh z) hu (V3 (X:=X.wsh z) hu (rD (X:=X.wsh z) (i:=i) hN hv hd hcd) (rD (X:=X.wsh z) (i:=j) Rm hv2 hd2 yL) hns) (rD (X:=X.wsh z) (i:=l) hN3 hv3 hd3 Rn) (hval z E cx) hs) fun Dn σ H qX=>by obtain⟨F,Γ,D2,R,h,k⟩:=qX;exact⟨F,Γ,_,R,h,fun d Γ1 F1 H1 v R1 s1 rd xQ=>by
  obtain⟨kk,k2,as,ks,ts,q,yK,xs,e1,e1',e2,ndk,hq,ht,hl,hnx⟩:=xQ;obtain⟨o,e3,w,rfl,nd,hn,r⟩:=R1.sl i _ e2;obtain⟨o2,e4,w2,rfl,rk⟩:=R1.sl j _ e1;obtain⟨o3,e5,w3,rfl,rk2⟩:=R1.sl l _ e1';have ev:=yJ rk;subst ev;have ev:=yJ rk2;subst ev;unfold TR at r;obtain⟨a,vs,bs,rfl,rfl,ea,hkl,r⟩:=r;obtain⟨u,b1,bs',b2,hu',hbs,rc,back⟩:=Yq r ht;subst hbs;unfold TR at rc;obtain⟨c,us,ds,rfl,rfl,ec,yM,rc⟩:=rc;obtain⟨rfl,rs⟩:=Q6 rc;have nab:a∉b1++ ([c]++b2):=(List.nodup_cons.mp nd).1;have nd2:=(List.nodup_cons.mp nd).2;have hac:a≠c:=fun z=>nab (by simp [z])
  have hc1:∀b∈b1++b2,b≠c:=fun b hb z=>by
   subst z;have p:=List.nodup_append.mp nd2;rcases zR.mp hb with hb | hb
   ·exact p.2.2 b hb b (by simp) rfl
   ·have:=(List.nodup_cons.mp p.2.1).1;exact this hb
  have gd:iB H1 a (kV kk) (some (.ref c)):=by
   have:=iB.k (k:=kk) ea
   rwa [z3u ndk hq hu'] at this
  refine⟨.ref a,e3,kV kk,e4,a,.ref c,rfl,gd,kV k2,e5,c,_,rfl,nA.k (k:=k2) ec (by rw[List.length_zip,<- yM,Nat.min_self];exact hl),?_⟩
  rw[Q5 yM];refine k.nx _ _ _ _ (R1.wrT e2 e3 (show d9 (Slot.tr (a::(b1++ ([c]++b2))) (.dic ks ts)) (some (.ref a)) c from by show c∈_;simp) (t:= .tr (a::(b1++ ([c]++b2))) (.dic ks (ts.set q (.dic (eF yK k2) ((bZ yK xs k2 d).map .leaf))))) ⟨_,rfl,nd,hn,?_⟩ fun b hb=> .inl hb) s1 hnx
  unfold TR;refine⟨a,vs,b1++ ([c]++b2),rfl,rfl,by rw[c7 hac];exact ea,hkl,?_⟩
  refine back (.refl _) (fun b hb u q=>by rw[c7 (hc1 b hb)];exact q) ?_
  unfold TR;exact⟨c,_,[],rfl,rfl,lV,Yx yM,JG (Yz rs rd)⟩⟩
end
def Y9(i:Nat):au:=fun D Γ _=>∃as ts,Γ[i]?=some (.tr as (.lst ts))/\D.nx (Γ.set i .no)
section
variable{X:Cx}{F0 H0:Hp}{pos npos apos cpos:Pos}{x:Str}{i:Nat}
end
abbrev uG:=T ->List D ->(T ->D ->Prop) ->(T ->Value ->Prop) ->Prop
def pY(as:List Addr)(H:Hp):Hp:=fun b=>if b∈as then none else H b
def sV(K:W.Frag)(sp:uG):Sp:=fun vs H Q E=>∃F a bs t ds rest P Ex,vs=V.ref a::rest/\Same F H/\ (a::bs).Nodup/\ (∀b∈a::bs,F b=none)/\TR K F H t (.ref a) (a::bs)/\ak K F ds rest/\sp t ds P Ex/\
 (∀t' d v cs F' H',Gr F (pY (a::bs) H) F' H' ->(a::cs).Nodup ->(∀b∈a::cs,F' b=none/\pY (a::bs) H b=none) ->TR K F' H' t' (.ref a) (a::cs) ->Rep K F' d v ->P t' d ->Q v H')/\
 ∀C t' cs F' H',Gr F (pY (a::bs) H) F' H' ->(a::cs).Nodup ->(∀b∈a::cs,F' b=none/\pY (a::bs) H b=none) ->TR K F' H' t' (.ref a) (a::cs) ->Ex t' C ->E C none H'
def startM(n:Nat)(s:Slot)(ds:List D):G2:=s::(ds.map .pu++List.replicate (n - 1 - ds.length) .no)
section
variable{K:W.Frag}{F0 H0 F H F' H' :Hp}{σ:St}{Γ:List Slot}
end
structure aa2 (P:Program) (w:World) (K:W.Frag) (mg:Str ->Option Value) (base:Heap) (x:Str) (k:Nat) (ps:List Str) (sp:uG):Prop where
 ex:∃f fd,d7 P w K mg base (gO P w) k f fd ps (sV K sp)/\mg x=some (.ref f)/\W.keepIn K (.ref f)=true/\Binds K fd ps []
structure aa3 (P:Program) (w:World) (K:W.Frag) (mg:Str ->Option Value) (base:Heap) (C:Addr) (m:Str) (k:Nat) (ps:List Str) (sp:uG):Prop where
 ex:∃f fd,d7 P w K mg base (gO P w) k f fd ps (sV K sp)/\Meth K C m f/\Binds K fd ps []
abbrev aa4(a:Addr)(Q:T ->D ->Prop):jV:={nx:=fun Γ=>∃cs t',Γ[0]?=some (.tr (a::cs) t')/\Q t' .non,rt:=fun _=>False,rm:=fun d Γ=>∃cs t',Γ[0]?=some (.tr (a::cs) t')/\Q t' d}
abbrev aa5(a:Addr)(Ex:T ->Value ->Prop):XW:=fun Γ C=>∃cs t',Γ[0]?=some (.tr (a::cs) t')/\Ex t' C
section
variable{P:Program}{w:World}{K:W.Frag}{mg:Str ->Option Value}{base:Heap}
end
def Za(te:aH):au:=fun D Γ E=>te Γ (fun d Γ1=>D.rm d Γ1) E
def Ro(C:Addr)(m:Str)(i:Nat)(sp:uG)(t:aZ):aH:=fun Γ P E=>(∃as fs ts,Γ[i]?=some (.tr as (.ob C fs ts))/\m∉fs)/\t Γ (fun ds Γ1=>∃a bs tt,Γ1[i]?=some (.tr (a::bs) tt)/\sp tt ds (fun t' d=>∀cs,P d (Γ1.set i (.tr (a::cs) t'))) fun t' Cx=>∀cs,E (Γ1.set i (.tr (a::cs) t')) Cx) E
def Rp(i:Nat)(sp:uG)(t:aZ):aH:=fun Γ P E=>(∃a bs tt,Γ[i]?=some (.tr (a::bs) tt))/\t Γ (fun ds Γ1=>∃a bs tt,Γ1[i]?=some (.tr (a::bs) tt)/\sp tt ds (fun t' d=>∀cs,P d (Γ1.set i (.tr (a::cs) t'))) fun t' Cx=>∀cs,E (Γ1.set i (.tr (a::cs) t')) Cx) E
section
variable{X:Cx}{F0 H0:Hp}{e:Expr}{es:List Expr}{pos p apos:Pos}{x m:Str}{C f:Addr}{fd:FuncData}{ps:List Str}{k i:Nat}{sp:uG}{te:aH}{t:aZ}
end
def aa6(h:Heap)(d:Addr)(es:Array DictEntry)(ep:Nat):Prop:=∃o,h.get? d=some o/\o.ExactDict/\o.data= .dict es ep
section
variable{prog:Program}{w:World}{A:Around}{E:bG}{s:Shared}{d it:Addr}{es:Array DictEntry}{ep i:Nat}
end
section
variable{κ:Type}[DecidableEq κ]
variable{prog:Program}{w:World}{knd:HeapKind prog w κ}{A:Around}{E:bG}{s:Shared}{d a:Addr}{xs:List (κ×Addr×Value)}{k:κ}{p:Addr×Value}
end
def sW(K:W.Frag)(H:Hp)(y:V)(k:List Key):Prop:=∃b,y= .ref b/\iK K H b (k.map kV)
section
variable{X:Cx}{pins:bw}{σ:St}{H:Hp}{s:Shared}{a:Addr}{y v:V}{u r:Value}{A:Around}{E:bG}{kvs:List (List Key×V)}{k:List Key}
end
def Rq(K:W.Frag)(td ty:TE):TE:=fun σ H Q=>td σ H fun x H1=>ty σ H1 fun y H2=>∃a kvs k v,x= .ref a/\Rd H2 a (.dT kvs)/\sW K H2 y k/\dF kvs k=some v/\Q v H2
def Zb(K:W.Frag)(neg:Bool)(ty td:TE):TE:=fun σ H Q=>ty σ H fun y H1=>td σ H1 fun x H2=>∃a kvs k,x= .ref a/\Rd H2 a (.dT kvs)/\sW K H2 y k/\Q (.bl (if neg then !(dF kvs k).isSome else(dF kvs k).isSome)) H2
def Rr(K:W.Frag)(td ty:TE):TE:=fun σ H Q=>td σ H fun x H1=>∃a,x= .ref a/\Ad H1 a/\ty σ H1 fun y H2=>∃kvs k v,H2 a=some (.dT kvs)/\sW K H2 y k/\dF kvs k=some v/\Q v (upd H2 a (.dT (pH kvs k)))
section
variable{X:Cx}{o i e:Expr}{pos apos cpos:Pos}{td ty:TE}
end
def qF(ks:List (List Key))(k:List Key):Bool:=ks.any fun k' =>decide (k' =k)
def nY{α:Type}:List (List Key) ->List α ->List Key ->Option α
 | k' ::ks,x::xs,k=>if k' =k then some x else nY ks xs k
 | _,_,_=>none
def putL(ks:List (List Key))(k:List Key):List (List Key):=if qF ks k=true then ks else ks++ [k]
def wg{α:Type}(ks:List (List Key))(xs:List α)(k:List Key)(x:α):List α:=if qF ks k=true then List.zipWith (fun k' y=>if k' =k then x else y) ks xs else xs++ [x]
def mV{α:Type}:List (List Key) ->List α ->List Key ->List α
 | k' ::ks,x::xs,k=>if k' =k then mV ks xs k else x::mV ks xs k
 | _,_,_=> []
def wj(ks:List (List Key))(k:List Key):List (List Key):=ks.filter fun k' =>decide (k' ≠k)
def aa7:D ->D ->(D ->Prop) ->Prop:=fun x y P=>match x,y with | .gK ks xs,.tup ds=>∃k d,ds=k.map cM/\nY ks xs k=some d/\P d | _,_=>False
section
variable{X:Cx}{F0 H0:Hp}{a b:Expr}{pos:Pos}{ta tb:aH}
end
def nZ:List Str ->List T ->Str ->Option T
 | f::fs,t::ts,g=>if g=f then some t else nZ fs ts g
 | _,_,_=>none
def sX :List Str ->List T ->Str ->T ->List T
 | f::fs,t::ts,g,t' =>if g=f then t' ::ts else t::sX fs ts g t'
 | _,ts,_,_=>ts
def Zc(C:Addr)(i:Nat)(f:Str):aH:=fun Γ P _=>∃as fs ts d,Γ[i]?=some (.tr as (.ob C fs ts))/\nZ fs ts f=some (.leaf d)/\P d Γ
def aa8(C:Addr)(neg:Bool)(i:Nat)(f:Str)(tk:aH):TT2:=fun Γ P E=>tk Γ (fun kd Γ1=>∃k as fs ts ks us,kd= .tup (k.map cM)/\Γ1[i]?=some (.tr as (.ob C fs ts))/\nZ fs ts f=some (.gK ks us)/\P (if neg then !qF ks k else qF ks k) Γ1) E
def Zd(C:Addr)(i:Nat)(f:Str)(j l:Nat)(tv:aH):au:=fun D Γ E=>tv Γ (fun d Γ1=>∃k1 k2 as fs ts ks xs,Γ1[j]?=some (.pu (cM k1))/\Γ1[l]?=some (.pu (cM k2))/\Γ1[i]?=some (.tr as (.ob C fs ts))/\nZ fs ts f=some (.gK ks (xs.map .leaf))/\ks.length<sizeLine/\
 D.nx (Γ1.set i (.tr as (.ob C fs (sX fs ts f (.gK (putL ks [k1,k2]) ((wg ks xs [k1,k2] d).map .leaf))))))) E
def Ze(C:Addr)(i:Nat)(f:Str)(j l:Nat):au:=fun D Γ _=>∃k1 k2 as fs ts ks xs d,Γ[j]?=some (.pu (cM k1))/\Γ[l]?=some (.pu (cM k2))/\Γ[i]?=some (.tr as (.ob C fs ts))/\nZ fs ts f=some (.gK ks (xs.map .leaf))/\nY ks xs [k1,k2]=some d/\
 D.nx (Γ.set i (.tr as (.ob C fs (sX fs ts f (.gK (wj ks [k1,k2]) ((mV ks xs [k1,k2]).map .leaf))))))
section
variable{X:Cx}{F0 H0:Hp}{ke value e:Expr}{es:List Expr}{pos npos aa9 apos cpos pos' x1:Pos}{x f:Str}{C:Addr}{i:Nat}{tk tv:aH}{tf:aZ}
end
def nDT:jj:=fun Γ P _=>P (.gK [] []) Γ
def Zf(C:Addr)(i:Nat)(f:Str)(te:aH):au:=fun D Γ E=>te Γ (fun d Γ1=>∃as fs ts,Γ1[i]?=some (.tr as (.ob C fs ts))/\f∉fs/\fs.length<1000/\rJ (fs++ [f])=true/\D.nx (Γ1.set i (.tr as (.ob C (fs++ [f]) (ts++ [.leaf d]))))) E
def Rt(C:Addr)(i:Nat)(f:Str)(tn:jj):au:=fun D Γ E=>tn Γ (fun t Γ1=>∃as fs ts,Γ1[i]?=some (.tr as (.ob C fs ts))/\f∉fs/\fs.length<1000/\rJ (fs++ [f])=true/\∀cs,D.nx (Γ1.set i (.tr (as++cs) (.ob C (fs++ [f]) (ts++ [t]))))) E
section
variable{X:Cx}{F0 H0:Hp}{value e:Expr}{es:List Expr}{pos npos pos' p:Pos}{x f:Str}{C fa:Addr}{fd:FuncData}{ps:List Str}{i k:Nat}{te:aH}{tn:jj}{sp:uG}{t:aZ}
def Ru(C:Addr)(sp:uG)(t:aZ):jj:=fun Γ P E=>t Γ (fun ds Γ1=>sp (.ob C [] []) ds (fun t' _=>P t' Γ1) fun _ Cx=>E Γ1 Cx) E
structure abb (P:Program) (w:World) (K:W.Frag) (mg:Str ->Option Value) (base:Heap) (x:Str) (C:Addr) (k:Nat) (ps:List Str) (sp:uG):Prop where
 ex:∃f fd,d7 P w K mg base (gO P w) k f fd ps (sV K sp)/\Mk K C f/\mg x=some (.ref C)/\Binds K fd ps []
 non:∀ds Q Ex,sp (.ob C [] []) ds Q Ex ->sp (.ob C [] []) ds (fun t d=>d= .non/\Q t d) Ex
end
def Rv(C:Addr)(m:Str)(sp:cj)(te:aH):aH:=fun Γ P E=>te Γ (fun d Γ1=>match d with
 | .obj C' fs ds=>C' =C/\m∉fs/\sp [.obj C' fs ds] (fun r=>P r Γ1) fun Cx=>E Γ1 Cx
 | _=>False) E
section
variable{X:Cx}{F0 H0:Hp}{o:Expr}{pos apos:Pos}{m:Str}{C:Addr}{ps:List Str}{k:Nat}{sp:cj}{te:aH}
end
abbrev P2:=Str×Str
def Rx(a b:P2):Bool:=gh a.1 b.1 || (decide (a.1=b.1)&&gh a.2 b.2)
def Zg:P2:=(Str.empty,Str.empty)
def abd(xs:List P2)(i j:Nat):Bool:=Rx (xs.getD i Zg) (xs.getD j Zg)
def abe(h:Heap)(v:Value)(p:P2):Prop:=∃(a:Addr) (o:Obj) (m:Nat) (t u:Tok),v= .ref a/\h.get? a=some o/\o.cls= .type "tuple" /\o.data= .seq #[.str p.1 t,.str p.2 u] m
def Zh(p:P2):List Key:= [.inr p.1,.inr p.2]
def pairD(p:P2):D:= .tup [.str p.1,.str p.2]
def yN(H:Hp)(w:V)(p:P2):Prop:=∃b,w= .ref b/\H b=some (.tup [.str p.1,.str p.2])
def Ry(X:Cx):List V ->Hp ->VK ->Prop:=fun vs H Q=>∃(q:Addr) (kvs:List (List Key×V)) (ps:List P2),vs= [.ref q]/\Rd H q (.dT kvs)/\kvs.map (·.1)=ps.map Zh/\ps.length<64/\
 ∀(l:Addr) (ms:List P2) (ws:List V),H l=none ->ms.Perm ps ->ms.Pairwise (fun a b=>Rx a b=true) ->ws.length=ms.length ->(∀(i:Nat) w p,ws[i]?=some w ->ms[i]?=some p ->yN H w p) ->Q (.ref l) (upd H l (.lst ws))
def z45:List D ->(List D ->Prop) ->Prop:=fun ds P=>match ds with
 | [.gK ks _]=>∃ps:List P2,ks=ps.map Zh/\ps.length<64/\∀ms:List P2,ms.Perm ps ->ms.Pairwise (fun a b=>Rx a b=true) ->P (ms.map pairD)
 | _=>False
section
variable{X:Cx}{F0 H0:Hp}{a:Expr}{pos p:Pos}{t:aZ}
end
def signs(x:Str):List Str:=x.cps.toList.map fun c=>⟨#[c]⟩
def Itx(x:Str):It:=⟨fun i _=>i<x.cps.size,fun i H v H' =>H' =H/\∃c,x.cps[i]?=some c/\v= .str ⟨#[c]⟩,fun i _=>x.cps.size<=i⟩
def abf(te:TE):TI:=fun σ H R=>te σ H fun v H1=>∃x,v= .str x/\R (Itx x) H1
def z56(te:aH):aZ:=fun Γ P E=>te Γ (fun d Γ1=>match d with | .str x=>x.length<=sizeLine/\P ((signs x).map .str) Γ1 | _=>False) E
section
variable{X:Cx}{F0 H0:Hp}{e tg:Expr}{te:aH}
end
def abg:D ->D ->(D ->Prop) ->Prop:=fun x y P=>match x,y with | .str a,.str b=>P (.bl (!gh b a)) | _,_=>False
def FQ(x:Str)(b:Nat):Str:=⟨(x.cps.toList.take b).toArray⟩
def FT(x:Str)(a:Nat):Str:=⟨(x.cps.toList.drop a).toArray⟩
def abh:V ->Option Int ->Option Int ->Hp ->VK ->Prop:=fun x lo hi H Q=>∃z:Str,x= .str z/\z.length<=sizeLine/\ ((∃b:Nat,lo=none/\hi=some (b:Int)/\Q (.str (FQ z b)) H)\/∃a:Nat,lo=some (a:Int)/\hi=none/\Q (.str (FT z a)) H)
def abj(te:aH)(tl th:uz):aH:=fun Γ P E=>te Γ (fun d Γ1=>tl Γ1 (fun l Γ2=>th Γ2 (fun u Γ3=>match d with
 | .str z=>z.length<=sizeLine/\ ((∃b:Nat,l=none/\u=some (b:Int)/\P (.str (FQ z b)) Γ3)\/∃a:Nat,l=some (a:Int)/\u=none/\P (.str (FT z a)) Γ3)
 | _=>False) E) E) E
section
variable{X:Cx}{F0 H0:Hp}{e:Expr}{lo hi:Option Expr}{pos p2:Pos}{te:aH}{tl th:uz}
end
def cUp(te:aH):aH:=fun Γ P E=>te Γ (fun d Γ1=>match d with | .str z=>∃c:Nat,z=⟨#[c]⟩/\97<=c/\c<=122/\P (.str ⟨#[c - 32]⟩) Γ1 | _=>False) E
section
variable{X:Cx}{F0 H0:Hp}{o:Expr}{apos cpos:Pos}{te:aH}
end
def z0e:List D ->D ->(D ->Prop) ->Prop:=fun xs y P=>match y with
 | .bl true=>∃(bs:List Bool) (j:Nat),xs=bs.map .bl/\bs[j]?=some true/\ (∀m,m<j ->bs[m]?=some false)/\bs.length<1000/\P (.int j)
 | _=>False
def abk(ta tb:aH):aH:=fun Γ P E=>ta Γ (fun d Γ1=>match d with | .lst xs=>tb Γ1 (fun y Γ2=>z0e xs y fun r=>P r Γ2) E | _=>False) E
section
variable{X:Cx}{F0 H0:Hp}{o e:Expr}{apos cpos:Pos}{ta tb:aH}
end
section
variable{X:Cx}{F0 H0:Hp}{e:Expr}{es:List Expr}{pos p np:Pos}{x y:Str}{ps:List Str}{k i:Nat}{sp:uG}{t:aZ}
end
section
variable{prog:Program}{w:World}{A:Around}{E:bG}{s:Shared}
end
def Zi(K:W.Frag)(n:Nat)(t:uO):TG:=fun v σ H Q=>∃a xs,v= .ref a/\fO K H a xs/\xs.length=n/\t xs σ H Q
def abl(n:Nat)(gs:lN):jD:=fun d Γ Q E=>match d with | .lst ds=>ds.length=n/\gs ds Γ Q E | _=>False
section
variable{X:Cx}{F0 H0:Hp}{es:List Expr}{gs:lN}{pos:Pos}
end
def FW:List Str ->Str
 | []=>Str.empty
 | x::xs=>x++FW xs
def FZ:List Str ->Nat
 | []=>0
 | x::xs=>x.length+FZ xs
def Zj(te:aH):aH:=fun Γ P E=>te Γ (fun d Γ1=>match d with | .lst ds=>∃xs:List Str,ds=xs.map .str/\FZ xs<1000/\P (.str (FW xs)) Γ1 | _=>False) E
section
variable{X:Cx}{F0 H0:Hp}{e:Expr}{apos cpos spos:Pos}{j}{te:aH}
end
section
variable{prog:Program}{w:World}{A:Around}{E:bG}{s:Shared}
end
def cmH(X:Cx):Prop:=∃a o u vs,X.A.handled=some (.ref a)/\X.H₀ a=some (.frz o u)/\o.data= .fields vs/\vs[2]?=some Value.none
def iLh(te:aH):aZ:=fun Γ P E=>te Γ (fun d Γ1=>match d with | .lst ds=>P ds Γ1 | _=>False) E
section
variable{X:Cx}{F0 H0:Hp}{e tg:Expr}{te:aH}{a:Addr}
end
def Zk(i:Nat)(t:jj):au:=fun D Γ E=>t Γ (fun tr Γ1=>((∀d,tr≠ .leaf d)/\∀k,tr≠ .kt k)/\∀a bs,D.nx (Γ1.set i (.tr (a::bs) tr))) E
def Zm(j:Nat)(t:aZ):au:=fun D Γ E=>t Γ (fun ds Γ1=>ds.length<=sizeLine/\∃k:List Key,ds=k.map cM/\D.nx (Γ1.set j (.tr [] (.kt k)))) E
def abm(neg:Bool)(i j:Nat):TT2:=fun Γ P _=>∃k as ks us,Γ[j]?=some (.tr [] (.kt k))/\Γ[i]?=some (.tr as (.gK ks us))/\P (if neg then !qF ks k else qF ks k) Γ
def abn(i j:Nat):aH:=fun Γ P _=>∃k as ks xs d,Γ[j]?=some (.tr [] (.kt k))/\Γ[i]?=some (.tr as (.gK ks (xs.map .leaf)))/\nY ks xs k=some d/\P d Γ
def Zn(i j:Nat)(tv:aH):au:=fun D Γ E=>tv Γ (fun d Γ1=>∃k as ks xs,Γ1[j]?=some (.tr [] (.kt k))/\Γ1[i]?=some (.tr as (.gK ks (xs.map .leaf)))/\ks.length<sizeLine/\D.nx (Γ1.set i (.tr as (.gK (putL ks k) ((wg ks xs k d).map .leaf))))) E
def Zo(i j:Nat):au:=fun D Γ _=>∃k as ks xs d,Γ[j]?=some (.tr [] (.kt k))/\Γ[i]?=some (.tr as (.gK ks (xs.map .leaf)))/\nY ks xs k=some d/\D.nx (Γ.set i (.tr as (.gK (wj ks k) ((mV ks xs k).map .leaf))))
section
variable{X:Cx}{F0 H0:Hp}{value:Expr}{es:List Expr}{pos npos kpos apos cpos pos' x1:Pos}{x y:Str}{i j:Nat}{tv:aH}{t:aZ}
end
section
variable{K:W.Frag}{F0 H0 F H:Hp}{σ:St}{Γ:List Slot}
open Classical in
end
def cVF(i:Nat):aH:=fun Γ P _=>∃as t,Γ[i]?=some (.tr as t)/\P (toD t) (Γ.set i (.pu (toD t)))
structure abo (P:Program) (w:World) (K:W.Frag) (mg:Str ->Option Value) (base:Heap) (C:Addr) (m:Str) (k:Nat) (ps:List Str) (sp:pW):Prop where
 ex:∃f fd,d7 P w K mg base (gO P w) k f fd ps (nT K sp)/\Meth K C m f/\Binds K fd ps []
def Rz(C:Addr)(m:Str)(sp:pW)(te:aH):jj:=fun Γ P E=>te Γ (fun d Γ1=>match d with
 | .obj C' fs ds=>C' =C/\m∉fs/\sp [.obj C' fs ds] (fun t=>P t Γ1) fun Cx=>E Γ1 Cx
 | _=>False) E
section
variable{X:Cx}{F0 H0:Hp}{o:Expr}{pos apos:Pos}{m:Str}{C:Addr}{ps:List Str}{k:Nat}{sp:pW}{te:aH}
end
def Itk(a:Addr)(o:Obj)(kvs:List (List Key×V))(bs:List Addr):It:=⟨fun i H=>H a=some (.frz o (.dT kvs))/\i<bs.length,fun i H x H' =>H' =H/\∃b,bs[i]?=some b/\x= .ref b,fun i H=>H a=some (.frz o (.dT kvs))/\bs.length<=i⟩
def Zq(Hz:Hp)(te:TE):TI:=fun σ H R=>te σ H fun v H1=>∃a kvs,v= .ref a/\H1 a=some (.dT kvs)/\ (kvs.length<=sizeLine ->(∀o u,Hz a≠some (.frz o u)) ->∀o (bs:List Addr),bs.length=kvs.length ->(∀(i:Nat) b kv,bs[i]?=some b ->kvs[i]?=some kv ->H1 b=some (.tup (kv.1.map kV))) ->R (Itk a o kvs bs) (upd H1 a (.frz o (.dT kvs))))
def Zr(n:Nat)(g:jD)(te:aH)(ti:aH):aZ:=fun Γ P E=>ti Γ (fun d Γ1=>match d with
 | .gK ks _=>aQ (o8 g gW te (List.replicate n .no)) (ks.map fun k=> .tup (k.map cM)) fun ys=>∃zs:List Str,ys=zs.map .str/\P ys Γ1
 | _=>False) E
section
variable{X:Cx}{F0 H0:Hp}{sc:Scope}{own:List Str}{N' :List Str}{elt tg iter:Expr}{pos:Pos}{ti te:aH}{g:jD}
end
def qG:D ->Option (List Key×List D)
 | .dic ks xs=>some (ks,xs)
 | .dik ks xs=>some (ks,xs)
 | _=>none
def dH:List Key ->List D ->Key ->Option D
 | k' ::ks,x::xs,k=>if k' =k then some x else dH ks xs k
 | _,_,_=>none
theorem yO{K:W.Frag}{F:Hp}{d:D}{v:V}{ks:List Key}{xs:List D}(h:qG d=some (ks,xs))(r:Rep K F d v):∃a vs,v= .ref a/\Rd F a (.dK (ks.zip vs))/\ks.length=vs.length/\ak K F xs vs:=by
 cases d with
 | dic ks' xs' =>
  cases h;unfold Rep at r;obtain⟨a,vs,rfl,e,l,rs⟩:=r;exact⟨a,vs,rfl,.inl e,l,rs⟩
 | dik ks' xs' =>
  cases h;unfold Rep at r;obtain⟨a,o,vs,rfl,e,l,rs⟩:=r;exact⟨a,vs,rfl,.inr ⟨o,e⟩,l,rs⟩
 | _=>cases h
theorem yP(s:Same F H)(r:Rd F a u):Rd H a u:=by
 rcases r with r | ⟨o,r⟩
 ·exact .inl (s _ _ r)
 ·exact .inr ⟨o,s _ _ r⟩
theorem RB{K:W.Frag}{F:Hp}{k:Key}:∀{ks:List Key} {xs:List D} {vs:List V},ak K F xs vs ->(∀d,dH ks xs k=some d ->∃v,dF (ks.zip vs) k=some v/\Rep K F d v)/\ (dH ks xs k=none ->dF (ks.zip vs) k=none)
 | [],xs,vs,_=>by
  refine⟨fun d h=> ?_,fun _=>rfl⟩;unfold dH at h;cases h
 | _::_,[],vs,r=>by
  unfold ak at r;subst r;refine⟨fun d h=> ?_,fun _=>rfl⟩;unfold dH at h;cases h
 | k' ::ks,x::xs,vs,r=>by
  unfold ak at r;obtain⟨v,us,rfl,r1,r2⟩:=r;have ih:=RB (k:=k) (ks:=ks) r2;unfold dF at ih⊢;rw[List.zip_cons_cons,List.find?_cons];unfold dH;by_cases q:k' =k
  ·refine⟨fun d h=> ?_,fun h=> ?_⟩
   ·rw[if_pos q] at h;cases h;exact⟨v,by simp [q],r1⟩
   ·rw[if_pos q] at h;cases h
  ·rw[if_neg q];simp only [q,decide_false];exact ih
def sY:D ->D ->(D ->Prop) ->Prop:=fun x y P=>∃ks xs k d,qG x=some (ks,xs)/\y=cM k/\dH ks xs k=some d/\P d
def Ga(neg:Bool):D ->D ->(D ->Prop) ->Prop:=fun x y P=>∃ks xs k,qG y=some (ks,xs)/\x=cM k/\P (.bl (if neg then !iW ks k else iW ks k))
def Zt(td ty tx:aH):aH:=fun Γ P E=>td Γ (fun d Γ1=>∃ks xs,qG d=some (ks,xs)/\ty Γ1 (fun kd Γ2=>tx Γ2 (fun df Γ3=>∃k,kd=cM k/\P ((dH ks xs k).getD df) Γ3) E) E) E
def JR:List D ->(D ->Prop) ->Prop:=fun ds P=>match ds with | [d]=>∃ks xs,qG d=some (ks,xs)/\P (.int ks.length) | _=>False
section
variable{X:Cx}{F0 H0:Hp}{a b o e f:Expr}{pos apos cpos:Pos}{ta tb td ty tx:aH}
theorem Zu(hu:X.A.units+1<cLine)(ha:QE X F0 H0 a ta)(hb:QE X F0 H0 b tb)(hs:uW b:=by exact fun _ _=>rfl):QE X F0 H0 (.Subscript a b pos) (cB sY ta tb):=fun z E cx=>
 jL (V3 (X:=X.wsh z) hu (ha z E cx) (hb z E cx) hs) fun σ H Q uN=>by obtain⟨F,Γ,P,R,h,k⟩:=uN;exact⟨F,Γ,_,R,h,fun d1 Γ1 F1 H1 v1 R1 s1 r1 h1=>⟨F1,Γ1,_,R1,h1,fun d2 Γ2 F2 H2 v2 R2 s2 r2 h2=>by
  obtain⟨ks,xs,kk,d,e1,rfl,hl,hp⟩:=h2;obtain⟨c,vs,rfl,ec,hkl,rs⟩:=yO e1 (r1.up s2);have ev:=yJ r2;subst ev;obtain⟨v,hv,rv⟩:=(RB rs).1 d hl;exact⟨c,v,rfl,.inl ⟨_,kk,yP R2.g ec,rfl,hv.symm⟩,k d Γ2 F2 H2 v R2 (s1.trans s2) rv hp⟩⟩⟩
theorem z3d(hu:X.A.units+1<cLine)(ha:QE X F0 H0 a ta)(hb:QE X F0 H0 b tb)(hm:behindInMarks .In b=false):QT X F0 H0 (.Compare a [.In] [b] pos) (cT (cB (Ga false) ta tb)):=fun z E cx=>
 DP (U3 (X:=X.wsh z) (z2g (X:=X.wsh z) hu (ha z E cx) (hb z E cx)) hm) fun σ H Q uN=>by obtain⟨F,Γ,P,R,h,k⟩:=uN;exact⟨F,Γ,_,R,h,fun d1 Γ1 F1 H1 v1 R1 s1 r1 h1=>⟨F1,Γ1,_,R1,h1,fun d2 Γ2 F2 H2 v2 R2 s2 r2 h2=>by
  obtain⟨ks,xs,kk,e1,rfl,hp⟩:=h2;obtain⟨c,vs,rfl,ec,hkl,rs⟩:=yO e1 r2;have ev:=yJ r1;subst ev;refine⟨c,_,rfl,.inl ⟨_,kk,yP R2.g ec,rfl,rfl⟩,_,rfl,?_⟩;rw[Y8 hkl];exact k _ Γ2 F2 H2 R2 (s1.trans s2) hp⟩⟩
theorem Zv:cG X (.builtin "len") (nJ X.K JR):=by
 rintro pins s σ H xs us Q I r ⟨F,ds,P,sF,rs,h,k⟩;unfold JR at h;split at h
 ·unfold ak ak at rs;obtain⟨v,_,rfl,rd,rfl⟩:=rs;obtain⟨ks,xs,e1,h⟩:=h;obtain⟨c,vs,rfl,ec,hkl,rs⟩:=yO e1 rd;obtain⟨u,rfl,rx⟩:=vals1 r;cases rx;refine z5f I (yP sF ec) fun t s' I' =>⟨.int ks.length,H,I',⟨t,?_⟩,k _ _ F H (Gr.refl sF) (by unfold Rep;rfl) h⟩
  rw[List.length_zip,<- hkl,Nat.min_self]
 ·exact h.elim
end
section
variable{X:Cx}
theorem Zw(he:PE X e te)(I:Inv X pins σ H s)
  (h0:te σ H Q0) (h:∀v H1,Q0 v H1 ->∃a kvs,v= .ref a/\Rd H1 a (.dK kvs)/\∀(s1:Shared) (ws:List (Key×Value)) (ep:Nat) (r:Addr),Inv X pins σ H1 s1 ->(a==sysModules)=false ->kvs.length<=sizeLine ->KV kvs ws ->s1.heap.DictAt (iJ X.prog X.w) a ws ep ->s1.heap.IsValuesView r a ->Q (.ref r) s1)
  (hbase:attributeBase e "values" X.env (eval e X.env)=eval e X.env) (hline:(apos.endLine==cpos.line)=true):
  wpAny (model X.prog X.w) X.A (eval (.Call (.Attribute e "values" apos) [] [] cpos) X.env) Q X.xe s:=by
 refine wpAny_Call_method0_late hbase hline (bF (he pins s σ H _ I h0) fun v s1 hq1=> ?_);obtain⟨x,H1,I1,r1,q0⟩:=hq1;obtain⟨a,kvs,ex,ea,q⟩:=h x H1 q0;subst ex;obtain rfl:v=Value.ref a:=r1;obtain⟨hT,hN,hsm⟩:=V5 I1 (.inl ⟨kvs,ea⟩);refine⟨"dict","dict.values",PySem.F.plainAttrs_dict,PySem.F.slot_dict_values,PySem.F.type_dict_values,hT,hN,Calls.callWith_builtin rfl (PySem.evalArgs_none ?_)⟩;obtain⟨hz,_,ws,kv,dd⟩:=um I1.hok ea;refine call_meetsIn PySem.F.slot_dict_values hT PySem.F.entry_dict_values (PySem.F.args_dict_values_1 _) (meets_dict_values (iJ X.prog X.w) a hsm) ⟨⟨ws,dd⟩,?_⟩;obtain⟨o,es,ep,h1,h2,h3,h4⟩:=id dd;have hm:s1.heap.DictAt (iJ X.prog X.w) a ws ep:=⟨o,es,h1,h2,h3,h4⟩;have vw:(s1.heap.push {cls:= .type "dict_values",data:= .fields #[.ref a]}).IsValuesView s1.heap.objs.size a:=⟨_,zY _ rfl,rfl,rfl⟩;exact q _ ws ep _ (I1.kept fun b o e=>zZ _ e) hsm hz kv (hm.push _) vw
theorem zrj{ks:List Key}{vs:List V}{ws:List (Key×Value)}{acc:Array Value}(hkl:ks.length=vs.length)(kv:KV (ks.zip vs) ws)(h1:acc.size=ws.length)(h2:∀(i:Nat) (u:Value),acc[i]?=some u ->∃k,ws[i]?=some (k,u)):Vals vs acc.toList:=by
 have hl:=kv.length;rw[List.length_zip,<- hkl,Nat.min_self] at hl;refine Ri (by rw[show acc.toList.length=acc.size from Array.length_toList];omega) fun i x u e1 e2=> ?_
 obtain⟨k,e3⟩:=h2 i u (by rw[<- Array.getElem?_toList];exact e2)
 obtain⟨v,e4,r⟩:=Fv kv e3;have:=(JN e4).2;rw[e1] at this;cases this;exact r
theorem zv8{e:Expr}{te:TE}{apos cpos pos p:Pos}(hc:X.calm=true)(hg:Gl X "list")(hm:X.mg "list" =none)(he:PE X e te)(hb:bootBuiltins "list" =some (.type "list"):=by decide+kernel)
  (hbase:attributeBase e "values" X.env (eval e X.env)=eval e X.env:=by rfl) (hline:(apos.endLine==cpos.line)=true:=by rfl)
  (he2:starEach [.Call (.Attribute e "values" apos) [] [] cpos] X.env=(false,eval (.Call (.Attribute e "values" apos) [] [] cpos) X.env)::starEach [] X.env:=by rfl):
  PE X (.Call (.Name "list" p) [.Call (.Attribute e "values" apos) [] [] cpos] [] pos) (fun σ H Q=>te σ H fun v H1=>∃(a:Addr) (ks:List Key) (vs:List V),v= .ref a/\Rd H1 a (.dK (ks.zip vs))/\ks.length=vs.length/\∀q,H1 q=none ->Q (.ref q) (upd H1 q (.lst vs))):=by
 intro pins s σ H Q I h;refine wpAny_Call_Name_kw (vK I hg hm hb ?_ (by decide) (by decide))
 refine PyProof.Rows.callWith_type1 ?_ he2 rfl;rw[he2];show wpAny _ _ (spliced ((false,eval (.Call (.Attribute e "values" apos) [] [] cpos) X.env)::backTo pos (starEach [] X.env))) _ _ _;refine Calls.spliced_cons ?_;refine Zw he I h (fun v H1 hq=> ?_) hbase hline;obtain⟨a,ks,vs,ev,ea,hkl,q⟩:=hq;refine⟨a,ks.zip vs,ev,ea,fun s1 ws ep r I1 hsm hz kv hd vw=> ?_⟩;refine Calls.spliced_nil ?_;have Fw:=kv.length;refine W.kdl_call (W.kdl_values (knd:=iJ X.prog X.w) (kvs:=ws) (ep:=ep)) (I1.ok.hd hc) ⟨vw,hd⟩ (by omega) fun h' tk acc c hold hg hac=> ?_
 have hv:=zrj hkl kv hac.1 hac.2;have Bf:=hv.length;rw[List.length_zip,<- hkl,Nat.min_self] at hz;have I2:Inv X pins σ (upd H1 s1.heap.objs.size (.lst vs)) {s1 with heap:=h',toks:=tk}:=
  I1.laid (t' :=tk) hold (zM _) (show bB X.prog X.w _ _ _ (.lst vs) from ⟨by omega,_,c,hv,by rw[Array.toArray_toList];exact hg⟩)
 exact⟨.ref s1.heap.objs.size,_,I2,rfl,q _ (I1.hok.fresh (zM _))⟩
theorem z01(hc:X.calm=true)(hg:Gl X "sum")(hm:X.mg "sum" =none)(he:PE X e te)(hb:bootBuiltins "sum" =some (.builtin "sum"):=by decide+kernel)
  (hbase:attributeBase e "values" X.env (eval e X.env)=eval e X.env:=by rfl) (hline:(apos.endLine==cpos.line)=true:=by rfl)
  (he2:starEach [.Call (.Attribute e "values" apos) [] [] cpos] X.env=(false,eval (.Call (.Attribute e "values" apos) [] [] cpos) X.env)::starEach [] X.env:=by rfl):
  PE X (.Call (.Name "sum" p) [.Call (.Attribute e "values" apos) [] [] cpos] [] pos) (fun σ H Q=>te σ H fun v H1=>∃(a:Addr) (ks:List Key) (ns:List Int),v= .ref a/\Rd H1 a (.dK (ks.zip (ns.map .int)))/\ks.length=ns.length/\Q (.int ns.sum) H1):=by
 intro pins s σ H Q I h;refine wpAny_Call_Name_kw (vK I hg hm hb ?_ (by decide) (by decide))
 refine PyProof.Rows.callWith_builtin1 ?_ he2 rfl;rw[he2];show wpAny _ _ (spliced ((false,eval (.Call (.Attribute e "values" apos) [] [] cpos) X.env)::backTo pos (starEach [] X.env))) _ _ _;refine Calls.spliced_cons ?_;refine Zw he I h (fun v H1 hq=> ?_) hbase hline;obtain⟨a,ks,ns,ev,ea,hkl,q⟩:=hq;refine⟨a,ks.zip (ns.map .int),ev,ea,fun s1 ws ep r I1 hsm hz kv hd vw=> ?_⟩;refine Calls.spliced_nil ?_;have Fw:=kv.length;have hlk:ws.length=ns.length:=by rw[<- Fw,List.length_zip,List.length_map,<- hkl,Nat.min_self]
 have K:=W.kdl_values (prog:=X.prog) (w:=X.w) (r:=r) (d:=a) (knd:=iJ X.prog X.w) (kvs:=ws) (ep:=ep);refine call_sum_walkAnyS ?_;obtain⟨oI,St,hit,W,st⟩:=K.iter X.A.in1 s1 (I1.ok.hd hc) ⟨vw,hd⟩;refine hit _ _ ⟨s1.heap.objs.size,_,_,_,_,_,_,fun i=>ns.getD i 0,rfl,W.toS,st,fun b hb=> ?_,fun i u hu=> ?_,fun s' t' hm' => ?_⟩
 ·show b< (s1.heap.push oI).objs.size;rw[Heap.size_push];rcases zT.mp hb with e | hb
  ·rw[e];exact Nat.lt_succ_self _
  ·rw[List.mem_singleton.mp hb];exact Nat.lt_succ_of_lt (K.there _ ⟨vw,hd⟩).2
 ·obtain⟨k,e3⟩:=hu;obtain⟨v,e4,rv⟩:=Fv kv e3;have e5:=(JN e4).2;rw[List.getElem?_map] at e5;cases en:ns[i]? with
  | none=>rw[en] at e5;cases e5
  | some n=>
   rw[en] at e5;cases e5;show∃t,u=Value.int (ns.getD i 0) t;rw[List.getD_eq_getElem?_getD,en];exact rv
 ·have hk:∀b o,s1.heap.get? b=some o ->s'.heap.get? b=some o:=fun b o e=>
   hm'.heap b o (fun hI=>absurd (zG e) (by rw[List.mem_singleton.mp hI];exact yV _)) (zZ _ e)
  rw[hlk,zsn ns _ (fun i _=>rfl),Moved.eq_with hm'];exact Xj (s:=s1) (v:= .int ns.sum) I1 hk ⟨_,rfl⟩ q
end
def sZ(te:aH):aZ:=fun Γ P E=>te Γ (fun d Γ1=>∃ks xs,qG d=some (ks,xs)/\P xs Γ1) E
def wu(te:aH):aH:=fun Γ P E=>te Γ (fun d Γ1=>∃ks xs ns,qG d=some (ks,xs)/\fW xs=some ns/\P (.int ns.sum) Γ1) E
section
variable{X:Cx}{F0 H0:Hp}{e:Expr}{apos cpos pos p:Pos}{te:aH}
theorem zx5(hc:X.calm=true)(hg:Gl X "list")(hm:X.mg "list" =none)(he:QE X F0 H0 e te)
  (hbase:attributeBase e "values" X.env (eval e X.env)=eval e X.env:=by rfl) (hline:(apos.endLine==cpos.line)=true:=by rfl)
  (he2:starEach [.Call (.Attribute e "values" apos) [] [] cpos] X.env=(false,eval (.Call (.Attribute e "values" apos) [] [] cpos) X.env)::starEach [] X.env:=by rfl):
  QF X F0 H0 (.Call (.Name "list" p) [.Call (.Attribute e "values" apos) [] [] cpos] [] pos) (sZ te):=fun z E cx=>
 jL (zv8 (X:=X.wsh z) hc hg hm (he z E cx) (by decide+kernel) hbase hline he2) fun σ H Q oY=>by
 obtain⟨F,Γ,P,R,h,k⟩:=oY;refine⟨F,Γ,_,R,h,fun d Γ1 F1 H1 v R1 s1 r1 h1=> ?_⟩;obtain⟨ks,xs,e1,h1⟩:=h1;obtain⟨c,vs,rfl,ec,hkl,rs⟩:=yO e1 r1;refine⟨c,ks,vs,rfl,yP R1.g ec,hkl,fun q hq0=> ?_⟩;obtain⟨R2,q1,q2,q3,ap⟩:=vO R1 hq0 rs;exact k _ Γ1 F1 _ q _ R2 s1 q1 q2 q3 rs ap h1
theorem z1s(hc:X.calm=true)(hg:Gl X "sum")(hm:X.mg "sum" =none)(he:QE X F0 H0 e te)
  (hbase:attributeBase e "values" X.env (eval e X.env)=eval e X.env:=by rfl) (hline:(apos.endLine==cpos.line)=true:=by rfl)
  (he2:starEach [.Call (.Attribute e "values" apos) [] [] cpos] X.env=(false,eval (.Call (.Attribute e "values" apos) [] [] cpos) X.env)::starEach [] X.env:=by rfl):
  QE X F0 H0 (.Call (.Name "sum" p) [.Call (.Attribute e "values" apos) [] [] cpos] [] pos) (wu te):=fun z E cx=>
 jL (z01 (X:=X.wsh z) hc hg hm (he z E cx) (by decide+kernel) hbase hline he2) fun σ H Q oY=>by
 obtain⟨F,Γ,P,R,h,k⟩:=oY;refine⟨F,Γ,_,R,h,fun d Γ1 F1 H1 v R1 s1 r1 h1=> ?_⟩;obtain⟨ks,xs,ns,e1,hns,h1⟩:=h1;obtain⟨c,vs,rfl,ec,hkl,rs⟩:=yO e1 r1;obtain rfl:=Xk rs hns;exact⟨c,ks,ns,rfl,yP R1.g ec,by rw[hkl,List.length_map],k _ Γ1 F1 H1 _ R1 s1 (by unfold Rep;rfl) h1⟩
end
def Itf(a:Addr)(o:Obj)(kvs:List (Key×V)):It:=⟨fun i H=>H a=some (.frz o (.dK kvs))/\i<kvs.length,fun i H x H' =>H' =H/\∃k v,kvs[i]?=some (k,v)/\x=kV k,fun i H=>H a=some (.frz o (.dK kvs))/\kvs.length<=i⟩
def RD(te:TE):TI:=fun σ H R=>te σ H fun v H1=>∃a o kvs,v= .ref a/\H1 a=some (.frz o (.dK kvs))/\ (kvs.length<=sizeLine ->R (Itf a o kvs) H1)
def z51(te:aH):aZ:=fun Γ P E=>te Γ (fun d Γ1=>match d with | .dik ks _=>P (ks.map cM) Γ1 | _=>False) E
section
variable{X:Cx}{F0 H0:Hp}{e tg:Expr}{te:aH}
end
def n6(tn:jj):aH:=fun Γ P E=>tn Γ (fun t Γ1=>match t with | .dic ks ts=>P (.dik ks (d8 ts)) Γ1 | _=>False) E
def tu(i:Nat)(t:au):au:=fun D Γ E=>∃as ks ts,Γ[i]?=some (.tr as (.dic ks ts))/\t D (Γ.set i (.pu (.dik ks (d8 ts)))) E
section
variable{K:W.Frag}{F0 H0 F H:Hp}{σ:St}{Γ:List Slot}
open Classical in
theorem SR.nail(R:SR K F0 H0 F H σ Γ)(nd:(a::bs).Nodup)(hn:∀b∈a::bs,F b=none/\H0 b=none/\Apart σ Γ b)(ea:H a=some (.dK (ks.zip vs)))(hkl:ks.length=vs.length)(r:cL K F H ts vs bs):
  ∃F',Same F F' /\SR K F0 H0 F' (L2.upd H a (.frz o (.dK (ks.zip vs)))) σ Γ/\Rep K F' (.dik ks (d8 ts)) (.ref a):=by
 have nab:a∉bs:=(List.nodup_cons.mp nd).1;have sF:Same F (fun b=>if b=a then some (.frz o (.dK (ks.zip vs))) else if b∈bs then H b else F b):=fun b u e=>by
  show(if b=a then some (.frz o (.dK (ks.zip vs))) else if b∈bs then H b else F b)=some u;rw[if_neg (fun z=>by rw[z,(hn a List.mem_cons_self).1] at e;cases e),if_neg (fun hb=>by rw[(hn b (List.mem_cons_of_mem _ hb)).1] at e;cases e)]
  exact e
 refine⟨_,sF,(R.chg (u:= .frz o (.dK (ks.zip vs))) (hn a zW).1 (hn a zW).2.1 (hn a zW).2.2).frzM sF (fun b u e=> ?_) (fun b u e n=> ?_),?_⟩
 ·have e' :(if b=a then some (.frz o (.dK (ks.zip vs))) else if b∈bs then H b else F b)=some u:=e;by_cases hb:b=a
  ·subst hb;rw[if_pos rfl] at e';rw[lV];exact e'
  ·rw[if_neg hb] at e';rw[c7 hb];split at e'
   ·exact e'
   ·exact R.g b u e'
 ·have e' :(if b=a then some (.frz o (.dK (ks.zip vs))) else if b∈bs then H b else F b)=some u:=e;by_cases hb:b=a
  ·subst hb;exact(hn b zW).2
  ·rw[if_neg hb] at e';split at e'
   ·rename_i hm;exact(hn b (zV _ hm)).2
   ·rw[n] at e';cases e'
 ·unfold Rep;refine⟨a,o,vs,rfl,if_pos rfl,hkl,cL.rep sF ts vs bs (fun c hc u hu=> ?_) r⟩;show(if c=a then some (.frz o (.dK (ks.zip vs))) else if c∈bs then H c else F c)=some u;rw[if_neg (show¬c=a from fun z=>nab (z ▸ hc)),if_pos hc];exact hu
end
section
variable{X:Cx}{F0 H0:Hp}{e:Expr}{st:Stmt}{tn:jj}{ts:au}
theorem JT(he:QN X F0 H0 e tn):QE X F0 H0 e (n6 tn):=fun z E cx pins s σ H Q I hq=>by
 obtain⟨F,Γ,P,R,h,k⟩:=hq;refine bF (he z E cx pins s σ H (fun v H1=>∃a kvs,v= .ref a/\H1 a=some (.dK kvs)/\∀o,Q (.ref a) (upd H1 a (.frz o (.dK kvs)))) I ⟨F,Γ,_,R,h,fun t Γ1 F1 H1 v as R1 s1 nd hn r h1=> ?_⟩) fun u s1 hq1=> ?_
 ·split at h1
  ·rename_i ks ts;unfold TR at r;obtain⟨a,vs,bs,rfl,rfl,ea,hkl,r⟩:=r;refine⟨a,_,rfl,ea,fun o=> ?_⟩;obtain⟨F',sF,R2,rp⟩:=R1.nail (o:=o) nd hn ea hkl r;exact k _ Γ1 F' _ _ R2 (s1.trans sF) rp h1
  ·exact h1.elim
 ·obtain⟨x,H1,I1,r1,a,kvs,ex,ea,q⟩:=hq1;subst ex;obtain rfl:u=Value.ref a:=r1;obtain⟨_,_,ws,kv,o,es,ep,h1,_⟩:=Dj I1.hok ea;exact⟨.ref a,_,Rj I1 ea h1,rfl,q o⟩
theorem z09(i:Nat)(h:QS X F0 H0 st ts):QS X F0 H0 st (tu i ts):=fun z E cx pins s σ H D I hq=>by
 obtain⟨F,Γ,D2,R,⟨as,ks,tr,e0,hp⟩,k⟩:=hq;obtain⟨o',e1,v,rfl,nd,hn,r⟩:=R.sl i _ e0;unfold TR at r;obtain⟨a,vs,bs,rfl,rfl,ea,hkl,r⟩:=r;obtain⟨_,_,ws,kv,o,es,ep,h1,_⟩:=Dj I.hok ea;obtain⟨F',sF,R2,rp⟩:=(R.dropAt e1).nail (o:=o) nd (fun b hb=>⟨(hn b hb).1,(hn b hb).2,R.less e0 e1 (show d9 (Slot.tr (a::bs) (.dic ks tr)) (some (.ref a)) b from hb)⟩) ea hkl r;have R3:=R2.set i rp;rw[xJ e1,List.set_set] at R3;exact h z E cx pins s σ _ D (Rj I ea h1) ⟨F',_,D2,R3,hp,k.mono sF⟩
end
def yQ(i:Nat)(tk tv:aH):au:=fun D Γ E=>tv Γ (fun d Γ1=>(∃as t,Γ1[i]?=some (.tr as t))/\tk Γ1 (fun kd Γ2=>∃k as ks xs,kd=cM k/\Γ2[i]?=some (.tr as (.dic ks (xs.map .leaf)))/\ks.length<sizeLine/\D.nx (Γ2.set i (.tr as (.dic (eF ks k) ((bZ ks xs k d).map .leaf))))) E) E
section
variable{X:Cx}{F0 H0:Hp}{ke value:Expr}{pos npos pos' :Pos}{x:Str}{i:Nat}{tk tv:aH}
theorem Zx(hu:X.A.units+1<cLine)(hN:X.N[i]?=some x)(hv:oO X.env.scope x)(hk:QE X F0 H0 ke tk)(hval:QE X F0 H0 value tv)(hs:swapsWith value (some (.Subscript (.Name x npos) ke pos')) pos.line X.env=pure false:=by rfl)
  (hd:(x==("__debug__" :Str))=false:=by decide) (hcd:(x==("__classdict__" :Str))=false:=by decide):QS X F0 H0 (.Assign [.Subscript (.Name x npos) ke pos'] value pos) (yQ i tk tv):=fun z E cx=>
 mK (M9 (X:=X.wsh z) hu (rD (X:=X.wsh z) (i:=i) hN hv hd hcd) (hk z E cx) (hval z E cx) hs) fun Dn σ H hq1=>by obtain⟨F,Γ,D2,R,h,k⟩:=hq1;exact⟨F,Γ,_,R,h,fun d Γ1 F1 H1 v R1 s1 rd hq2=>by
  obtain⟨⟨as,t,e0⟩,q⟩:=hq2;obtain⟨o,e1,w,rfl,_⟩:=R1.sl i _ e0;refine⟨w,e1,F1,Γ1,_,R1,q,fun kd Γ2 F2 H2 y R2 s2 rk q2=> ?_⟩;obtain⟨kk,as',ks,xs,rfl,e2,hl,q2⟩:=q2;obtain⟨o,e3,w',rfl,nd,hn,r⟩:=R2.sl i _ e2;rw[e1] at e3;cases e3;unfold TR at r;obtain⟨a,vs,bs,rfl,rfl,ea,hkl,r⟩:=r;obtain⟨rfl,rs⟩:=Q6 r;have ev:=yJ rk;subst ev;refine⟨a,_,rfl,nA.k (k:=kk) ea (by rw[List.length_zip,<- hkl,Nat.min_self];exact hl),?_⟩
  rw[Q5 hkl];refine k.nx _ _ _ _ (R2.wrT e2 e1 (show d9 (Slot.tr [a] (.dic ks (xs.map .leaf))) (some (.ref a)) a from zW) (t:= .tr [a] (.dic (eF ks kk) ((bZ ks xs kk d).map .leaf))) ⟨_,rfl,nd,hn,?_⟩ fun b hb=> .inl hb) (s1.trans s2) q2;unfold TR;exact⟨a,_,[],rfl,rfl,lV,Yx hkl,JG (Yz rs (rd.up s2))⟩⟩
end
def z5y:List D ->(List D ->Prop) ->Prop:=fun ds P=>match ds with
 | [d]=>∃xs:List Str,∃ys,qG d=some (xs.map .inr,ys)/\xs.Nodup/\xs.length<64/\∀ms:List Str,ms.Perm xs ->ms.Pairwise (fun a b=>gh a b=true) ->P (ms.map .str)
 | _=>False
def RG(X:Cx):List V ->Hp ->VK ->Prop:=fun vs H Q=>∃(q:Addr) (kvs:List (Key×V)) (xs:List Str),vs= [.ref q]/\Rd H q (.dK kvs)/\kvs.map (·.1)=xs.map .inr/\xs.Nodup/\xs.length<64/\
 ∀(l:Addr) (ms:List Str),H l=none ->ms.Perm xs ->ms.Pairwise (fun a b=>gh a b=true) ->Q (.ref l) (upd H l (.lst (ms.map .str)))
section
variable{X:Cx}{F0 H0:Hp}{a:Expr}{pos p:Pos}{t:aZ}
end
theorem hu1(h:n+21<cLine):n+1<cLine:=zK (Nat.add_le_add_left (show 1<=21 by decide) _) h
theorem qv(i:Nat)(hN:X.N[i]?=some x:=by exact rfl)(hv:oO X.env.scope x:=by first | exact Or.inl rfl | exact Or.inr (Or.inl rfl) | exact Or.inr (Or.inr rfl))(hd:(x==("__debug__" :Str))=false:=by decide)(hcd:(x==("__classdict__" :Str))=false:=by decide):QE X F0 H0 (.Name x pos) (cV i):=z3x hN hv hd hcd
end L3
namespace Hd
open PySem PySem.W PySem.Calls PyProof.Rows
def cut(h:Heap)(n:Nat):Frag:=(List.range n).filterMap fun a=>(h.get? a).map fun o=>(a,o)
theorem zx0{h:Heap}:∀{l:List Nat} {a:Addr} {o:Obj},(l.filterMap fun a=>(h.get? a).map fun o=>(a,o)).lookup a=some o ->h.get? a=some o:=by
 intro l;induction l with
 | nil=>intro a o e;cases e
 | cons b r ih=>
  intro a o e;rw[List.filterMap_cons] at e;cases hb:h.get? b with
  | none=>rw[hb] at e;exact ih e
  | some x=>
   rw[hb] at e;simp only [Option.map_some,List.lookup_cons] at e;split at e
   ·rename_i q;cases e;rw[beq_iff_eq.mp q];exact hb
   ·exact ih e
theorem z4r(h:Heap)(n:Nat):(cut h n).In h:=fun _ _ e=>zx0 e
def treeOf:List Obj ->Nat ->BT ->BT
 | [],_,t=>t
 | o::r,i,t=>treeOf r (i+1) (t.ins i o)
abbrev ann:Option Value:=some (.ref 6)
abbrev z:Pos:=⟨0,0,0,0⟩
def env(p:Program):Env:={scope:=p.main.scope,locals:=mainNs,globals:=mainNs,cells:= [],code:= .ref 13,frame:=some 14}
def cB(p:Program):Code:= .body (behindTheImports p) (env p)
noncomputable section
def S0(w:World)(os:OsState):Shared:=⟨boot_heap w.params,Array.mk [],boot_drawn,boot_toks,os⟩
def Sa(x:Option (Shared×Thread))(w:World)(os:OsState):Shared:=match x with | some y=>y.1 | none=>S0 w os
def Ta(s:Shared):SharedT:=⟨treeOf s.heap.objs.toList 0 .nil,15,s.heap.life,s.gens,s.drawn,s.toks,s.os⟩
abbrev TB:=String ->Option Builtin
abbrev Zy:=TB ->Program ->World ->Nat ->Option Value ->Nat ->Shared ->Thread ->Option (Shared×Thread)
abbrev RJ:=TB ->Program ->World ->Nat ->Option Value ->Nat ->Nat ->SharedT ->Thread ->Option (Flow×SharedT×Code×Pos)
abbrev RK:=TB ->Program ->World ->Nat ->Option Value ->Nat ->Shared ->Thread ->Option Shared
def fore(tb:TB)(GO:Zy)(p:Program)(w:World)(os:OsState):Shared:=Sa (GO tb p w 11 ann 12 (S0 w os) (topStub p)) w os
def shot{α:Type}(tb:TB)(GO:Zy)(RUN:RJ)(TOP:RK)(EXS:List Stmt ->Env ->Sem Flow)(p:Program)(obs:Shared ->α)(w:World)(os:OsState):Option ((Flow×Code)×α):=
 (RUN tb p w 11 ann 1 30000 (Ta (fore tb GO p w os)) ⟨(EXS (behindTheImports p) (env p)).wrap doneF deadEnd id id,cB p,z,[topFrame z]⟩).bind fun x=>
  (TOP tb p w 11 ann 2 x.2.1.abs ⟨doneF .next,x.2.2.1,x.2.2.2,[topFrame z]⟩).map fun s=>((x.1,x.2.2.1),obs s)
def rest{α:Type}(SEEN:Program ->List Str ->List Str ->(Shared ->Bool) ->Bool ->Shared ->α)(p q:Program)(loose:List Str)(Xt:Shared ->Bool){β:Type}(obs:Frag ->β)(n:Nat)(w:World)(s:Shared):Bool×α×β:=
 (staticsOk (importedModules p.main.body) (boot_heap w.params) s.heap&&namesBound p s.heap&&gensDone s&&laidKept (boot_heap w.params) s.heap,SEEN q loose (importedModules p.main.body) Xt true s,obs (cut s.heap n))
theorem size(w:World):((boot_heap w.params).isNs mainGlobals&&(Array.mk []:Array GenState).size==0,(boot_heap w.params).objs.size,(boot_heap w.params).nsMap mainGlobals "__annotations__")=(true,11,ann):=by kernel_rfl
theorem left
  (e:opening p=plainProg p.main.scope.names) (f:∀s,fenceModules? p s=some s)
  (hA:∀w os,topGo treeTable p w 11 ann 12 (S0 w os) (topStub p)=some (fore treeTable topGo p w os,⟨denote treeTable (cB p),cB p,z,[topFrame z]⟩))
  (hB:∀w os,segRun treeTable p w 11 ann 1 1 (fore treeTable topGo p w os) (blockOf (behindTheImports p) (env p) (cB p) z [topFrame z])=some (.next,fore treeTable topGo p w os,cB p,z))
  (hC:∀w os,(Ta (fore treeTable topGo p w os)).abs=fore treeTable topGo p w os)
  (hD:∀w os,shot treeTable topGo segRunT topRun execs p (rest openSeen p q loose Xt obs n w) w os=some ((.next,cB p),(true,openGood q loose,good))):
  LeftO p q loose Xt (fun s=>obs (cut s.heap n)) (fun _=>good) 40000:=fun w=>by
 obtain⟨⟨h,gs,d,k,os⟩,e1,e2⟩:=Option.map_eq_some_iff.mp (boot_open (N:=40000) e (by decide) f w)
 obtain⟨rfl,rfl,rfl,rfl⟩:h=boot_heap w.params/\gs=Array.mk []/\d=boot_drawn/\k=boot_toks:=by simpa using e2
 obtain⟨z1,z2,z3⟩:_/\_/\_:=by simpa only [Prod.mk.injEq] using size w
 obtain⟨⟨fl,S,c,ps⟩,r1,r2⟩:=Option.bind_eq_some_iff.mp (hD w os);obtain⟨s,t1,t2⟩:=Option.map_eq_some_iff.mp r2;obtain⟨u1,u2⟩:=Prod.mk.inj t2;obtain⟨v1,v2⟩:=Prod.mk.inj u1;obtain⟨y1,y2⟩:=Prod.mk.inj u2;obtain⟨y3,y4⟩:=Prod.mk.inj y2;dsimp only at v1 v2 t1;subst v1 v2;have g1:topRun treeTable p w 11 ann (30000+2) (fore treeTable topGo p w os) (restOf (behindTheImports p++ []) (env p) (cB p) z [topFrame z])=some s:=
  piece_app (by have:=segRun_of r1;rw[hC w os] at this;exact this) (piece_nil t1)
 rw[List.append_nil] at g1;have g2:=go_top (hA w os) (piece_block (hB w os) g1);have g3:=topRun_mono (40000 - (12+ (1+ (30000+2)))) _ _ _ _ g2;unfold openEnds;rw[e1];show(topFrom treeTable p w 40000 (S0 w os)).map _=_;unfold topFrom S0;dsimp only;rw[z1,z2,z3];have g4:topRun treeTable p w 11 ann 40000 ⟨boot_heap w.params,Array.mk [],boot_drawn,boot_toks,os⟩ (topStub p)=some s:=g3;rw[g4];show(match staticsOk (importedModules p.main.body) (boot_heap w.params) s.heap&&namesBound p s.heap&&gensDone s&&laidKept (boot_heap w.params) s.heap with | true=>some s | false=>none).map _=_
 rw[y1];show some (openSeen q loose (importedModules p.main.body) Xt true s,obs (cut s.heap n))=_;rw[y3,y4]
end
open L2 L3
def adr(x:Option (Option Value)):Addr:=match x with | some (some (.ref f))=>f | _=>0
def isRef(x:Option (Option Value)):Bool:=match x with | some (some (.ref _))=>true | _=>false
theorem adr_of(h:isRef x=true):x=some (some (.ref (adr x))):=by
 unfold isRef at h;split at h
 ·rfl
 ·cases h
theorem aT [Decidable p](h:(decide p&&b)=true):p/\b=true:=⟨of_decide_eq_true (Bool.and_eq_true_iff.mp h).1,(Bool.and_eq_true_iff.mp h).2⟩
def bare(fd:FuncData):FuncData:={fd with kwdefaults:= .none,doc:= .none,pyModule:= .none,annotations:=none,code:= .none,closureTuple:= .none}
def Bp(K:Frag)(f:Addr)(qual:Str):Option FuncData:=match K.lookup f with
 | some ⟨_,_,.func fd,_⟩=>(match codeIn K fd.code qual&&keepIn K (.ref f) with | true=>some (bare fd) | false=>none)
 | _=>none
def RL(K:Frag)(v:Value):Bool:=match v with
 | .ref T=>(match K.lookup T with | some ⟨.type t,_,.seq xs _,_⟩=>t== "tuple" &&(match xs.toList with | [.none]=>true | _=>false) | _=>false)
 | _=>false
def fnD(K:Frag)(f:Addr)(qual:Str):Option FuncData:=(Bp K f qual).bind fun fd=>match RL K fd.defaults with | true=>some {fd with defaults:= .none} | false=>none
theorem zr2{K:Frag}{f:Addr}{qual:Str}{g:FuncData}(h:Bp K f qual=some g):∃oc od fd sl,K.lookup f=some ⟨oc,od,.func fd,sl⟩/\codeIn K fd.code qual=true/\keepIn K (.ref f)=true/\bare fd=g:=by
 unfold Bp at h;split at h
 ·rename_i oc od fd sl e;split at h
  ·rename_i q;obtain⟨q1,q2⟩:=Bool.and_eq_true_iff.mp q;exact⟨oc,od,fd,sl,e,q1,q2,zF h⟩
  ·cases h
 ·cases h
theorem z03{fd:FuncData}{x qual:Str}{st:Stmt}{dV:Value}(h:bare fd=fnOf x qual (uX st) (rG st) (bM st) dV .none .none .none none .none .none):
  fd=fnOf x qual (uX st) (rG st) (bM st) dV fd.kwdefaults fd.doc fd.pyModule fd.annotations fd.code fd.closureTuple:=by
 obtain⟨⟩:=fd;unfold bare at h;dsimp only at h⊢;injection h with h1 h2 h3 h4 h5 h6 h7 h8 h9 _ _ _ _ _ h10;subst h1 h2 h3 h4 h5 h6 h7 h8 h10
 rfl
theorem z4b{K:Frag}{f:Addr}{x qual:Str}{st:Stmt}(h:Bp K f qual=some (fnOf x qual (uX st) (rG st) (bM st) .none .none .none .none none .none .none)):∃fd,fK K x qual st f fd:=by
 obtain⟨oc,od,fd,sl,e,c,k,b⟩:=zr2 h;exact⟨fd,⟨⟨oc,od,_,_,_,_,_,_,sl,z03 b,e,c⟩,k⟩⟩
def Gb(K:Frag)(x:Str):Option FuncData:=match nsIn K mainGlobals x with | some (some (.ref f))=>Bp K f x | _=>none
def fnM(K:Frag)(x:Str):Option FuncData:=match nsIn K mainGlobals x with | some (some (.ref f))=>fnD K f x | _=>none
theorem zt6{K:Frag}{x:Str}{g:FuncData}(h:Gb K x=some g):∃f,nsIn K mainGlobals x=some (some (.ref f))/\Bp K f x=some g:=by
 unfold Gb at h;split at h
 ·rename_i e;exact⟨_,e,h⟩
 ·cases h
abbrev ex(x qual:Str)(st:Stmt):Option FuncData:=some (fnOf x qual (uX st) (rG st) (bM st) .none .none .none .none none .none .none)
theorem fun_at{K:Frag}{x:Str}{st:Stmt}(h:Gb K x=ex x x st):∃f fd,nsIn K mainGlobals x=some (some (.ref f))/\fK K x x st f fd:=
 let ⟨f,e,h⟩:=zt6 h;let ⟨fd,F⟩:=z4b h;⟨f,fd,e,F⟩
abbrev d(x:Str)(s:Stmt):Str×Stmt:=(x,s)
def seen(K:Frag)(ds:List (Str×Stmt)):List (Option FuncData):=ds.map fun d=>Gb K d.1
def due(ds:List (Str×Stmt)):List (Option FuncData):=ds.map fun d=>ex d.1 d.1 d.2
theorem seen_cons{K:Frag}{d:Str×Stmt}{ds:List (Str×Stmt)}(h:seen K (d::ds)=due (d::ds)):Gb K d.1=ex d.1 d.1 d.2/\seen K ds=due ds:=List.cons.inj h
def recOf(s:Stmt):DefRec:=match s with
 | .FunctionDef n a b _ _ _ sc _ _ ps=>⟨n,a,b,sc,ps⟩
 | _=>⟨Str.empty,uX s,[],bM s,z⟩
def abp(x:Option (Option Value)):Option Int:=match x with | some (some (.int i _))=>some i | _=>none
def o9:List Value ->Option (List (Sum Int Str))
 | []=>some []
 | .int i _::r=>(o9 r).map (.inl i:: ·)
 | .str x _::r=>(o9 r).map (.inr x:: ·)
 | _=>none
def abq(K:Frag)(a:Addr):Option (List (Sum Int Str)):=match K.lookup a with
 | some ⟨.type t,_,.seq xs _,_⟩=>if t= "tuple" then o9 xs.toList else none
 | _=>none
def Zz:Sum Int Str ->D
 | .inl i=> .int i
 | .inr x=> .str x
theorem walk_ex{l:OpenLaw}{n k:Nat}{q:Program}{loose:List Str}{XP:(Str ->Option Value) ->Heap ->Prop}{YP:World ->Heap ->Prop}{d:DefRec}{Fx:Frag ->Prop}{CX:World ->qj}{sp:Frag ->Sp}{x:Str}
  (hn:l.most=some n) (hn2:n<=sizeLine) (hdf:d.params.defaults= []) (hr:eU k callerA)
  (hY:∀(w:World) (h:Heap),YP w h ->∃K:Frag,K.In h/\Fx K)
  (F:∀(w:World) (K:Frag) (mg:Str ->Option Value) (fa:Addr) (h:Heap),Fx K ->K.In h ->h.Ns mainGlobals mg ->mg d.name=some (.ref fa) ->
   ∃fd:FuncData,(∀(s:Shared) (u:Value),BindsTo s fd ⟨[u],[]⟩ [(x,u)])/\∀b:Heap,K.In b ->b.Ns mainGlobals mg ->d7 l.prog w K mg b (CX w) k fa fd [x] (sp K))
  (hsp:∀(K:Frag) (H:Hp) (a:Addr) (ns:List Int),ns.length<=n ->Only H ->fO K H a (ns.map V.int) ->sp K [.ref a] H (fun v _=>v= .bl true) fun _ _ _=>False)
  (Nm:∀(w:World) (H:Hp) (s:Shared) (e:Value) (s' :Shared),CX w [] H s (fun _ _ _=>False) e s' ->False):
  WalkO q loose XP YP l.row.toRowW d [] (fun f vs=>PySem.call f vs):=by
 refine V6.nC hn hdf fun w s₀ s₁ mg mb fa o pm cd doc a vs ns G Y ho hd hcd hmg hobj hints hlen hg=> ?_;obtain⟨K,KX,fx⟩:=hY w _ Y;obtain⟨fd,hb,hF⟩:=F w K mg fa _ fx KX G.T.g hmg;exact zwh KX G.T.g G.T.b G.T.builtins G.T.nolimit hg hobj hints (zN hlen hn2) hr hF hb (fun H hO hS=>hsp K H a ns hlen hO hS) fun H e s' =>Nm w H s₁ e s'
theorem start_binds{K:Frag}{fd:FuncData}{x:Str}{st:Stmt}{f:Addr}(F:fK K "law" "law" st f fd)
  (h:∀(kV doc pm:Value) (an:Option Addr) (cdv ct:Value) (u:Value),bindArgs (fnOf "law" "law" (uX st) (rG st) (bM st) .none kV doc pm an cdv ct) ⟨[u],[]⟩=pure [(x,u)]) (s:Shared) (u:Value):BindsTo s fd ⟨[u],[]⟩ [(x,u)]:=by
 obtain⟨oc,od,kV,doc,pm,an,cdv,ct,osl,rfl,lk,hcd⟩:=F.ex;exact .of_eq (h kV doc pm an cdv ct u)
theorem holds{l:OpenLaw}{q:Program}{loose:List Str}{β:Type}{obs:Frag ->β}{good:β}{n:Nat}{d:DefRec}(said:l.wellSaid=true)
  (L:LeftO l.row.prog q loose (fun _=>true) (fun s=>obs (cut s.heap n)) (fun _=>good) 40000)
  (hd:defOf q l.row.name=some (d,[])) (hp:l.row.prog.theDef l.row.name=some (d.params,d.body,d.scope)) (hk:kwWritten? d.params.kwonlyargs d.params.kw_defaults=some [])
  (ok:(chainsOk q&&opensWell l.row.prog&&(frees l.row.toRowW&&l.row.within.isEmpty))=true) (hb:l.row.prog.bare) (hw:l.row.toRowW.promised) (wr:l.row.writes=false)
  (walk:WalkO q loose (fun _ _=>True) (fun _ h=>∃K:Frag,K.In h/\obs K=good) l.row.toRowW d [] (fun f vs=>PySem.call f vs)):l.Holds:=
 holds_law said fun k1=>holds_open (XP:=fun _ _=>True) (YP:=fun _ h=>∃K:Frag,K.In h/\obs K=good) L (fun _ s e=>⟨_,z4r s.heap n,e⟩) (fun _ _ _ ⟨K,x,e⟩ k=>⟨K,x.keeps k,e⟩)
  (fun _ _=>trivial) (fun _ _ _ _ _=>trivial) hd hp hk (fun s _=>recFacts_of rfl) (by rw[wr];rfl) k1 ok hb hw walk
end Hd
namespace L3
open PySem PySem.Spec PyProof.Rows L2
section
variable{X:Cx}{F0 H0:Hp}
def ZC(j:Nat)(t1 t2:aZ)(tb:au):au:=fun Dn Γ E=>t1 Γ (fun ZD Γ1=>ZD.length<=sizeLine/\∃k1:List Key,ZD=k1.map cM/\t2 Γ1 (fun ZF Γ2=>ZF.length<=sizeLine/\∃k2:List Key,ZF=k2.map cM/\
 ∃M:G2 ->Prop,tb {Dn with nx:=M,ct:=M,bk:=Dn.nx} (Γ2.set j (.tr [] (.kt k1))) E/\∀Γ3,M Γ3 ->tb {Dn with nx:=Dn.nx,ct:=Dn.nx,bk:=Dn.nx} (Γ3.set j (.tr [] (.kt k2))) E) E) E
end
section
variable{X:Cx}{pins:bw}{σ:St}{F H:Hp}{s:Shared}{A:Around}
def qH(neg:Bool):D ->D ->(D ->Prop) ->Prop:=fun x y P=>∃ks xs,qG x=some (ks,xs)/\qG y=some (ks,xs)/\ks.Nodup/\ (∀d∈xs,gP 18 d d)/\P (.bl (!neg))
theorem ZG:∀{ks:List Key} {xs:List D},ks.Nodup ->∀p∈ks.zip xs,dH ks xs p.1=some p.2
 | [],_,_,_,h=>by(cases h)
 | _::_,[],_,_,h=>by(cases h)
 | k::ks,x::xs,nd,p,h=>by
  rw[List.zip_cons_cons] at h;unfold dH;rcases zT.mp h with rfl | h
  ·rw[if_pos rfl]
  ·rw[if_neg (show¬k=p.1 from fun z=>(List.nodup_cons.mp nd).1 (by rw[z];exact(List.of_mem_zip h).1))]
   exact ZG (List.nodup_cons.mp nd).2 p h
theorem ZJ(I:Inv X pins σ H s)(sF:Same F H)(hu:A.units+19<cLine){us:List V}{KS:List Key}{XS:List D}{kb:List (Key×Value)}(rb:ak X.K F XS us)(Gd:KV (KS.zip us) kb):
  ∀{ks:List Key} {xs:List D} {vs:List V} {ka:List (Key×Value)},ak X.K F xs vs ->KV (ks.zip vs) ka ->(∀p∈ks.zip xs,dH KS XS p.1=some p.2/\gP 18 p.2 p.2) ->W.KeqHits A s kb ka true
 | [],xs,vs,ka,_,kv,_=>by
  unfold KV at kv;rw[List.zip_nil_left] at kv;cases kv;exact .nil
 | k::ks,[],vs,ka,r,kv,_=>by
  unfold ak at r;subst r;unfold KV at kv;rw[List.zip_nil_right] at kv;cases kv;exact .nil
 | k::ks,x::xs,vs,ka,r,kv,h=>by
  unfold ak at r;obtain⟨v,vs',rfl,r1,r2⟩:=r;unfold KV at kv;rw[List.zip_cons_cons] at kv;cases kv with
  | @cons _ q _ qs hq t=>
   obtain⟨e1,e2⟩:=hq;obtain⟨l,c⟩:=h (k,x) (by rw[List.zip_cons_cons];exact zW)
   obtain⟨u,hv,ru⟩:=(RB (k:=k) (ks:=KS) rb).1 x l;have hr:=KV.val Gd k;rw[hv] at hr;cases hy:valueAt kb k with
   | none=>rw[hy] at hr;exact(show False from hr).elim
   | some y=>
    rw[hy] at hr;have he:=(yc I sF 18 A x x v u q.2 y (by omega) c r1 ru e2 hr).eq
    rw[Ag] at he;have ih:=ZJ I sF hu rb Gd r2 t fun p hp=>h p (by rw[List.zip_cons_cons];exact zV _ hp)
    obtain⟨q1,q2⟩:=q;cases e1;exact .hit hy he ih
theorem ZK(hu:X.A.units+21<cLine)(I:Inv X pins σ H s)(sF:Same F H){d1 d2:D}{x y:V}{u w:Value}{ks:List Key}{xs:List D}(e1:qG d1=some (ks,xs))(e2:qG d2=some (ks,xs))(nd:ks.Nodup)(cm:∀d∈xs,gP 18 d d)
  (r1:Rep X.K F d1 x) (r2:Rep X.K F d2 y) (rx:RelV x u) (ry:RelV y w):∃a b ka kb,u= .ref a/\w= .ref b/\ (a==sysModules)=false/\ (b==sysModules)=false/\s.heap.DictOf (iJ X.prog X.w) a ka/\s.heap.DictOf (iJ X.prog X.w) b kb/\ka.length=kb.length/\W.KeqHits X.A.in1 s kb ka true:=by
 obtain⟨a,vs,rfl,ea,la,ra⟩:=yO e1 r1;obtain⟨b,us,rfl,eb,lb,rb⟩:=yO e2 r2;cases rx;cases ry;obtain⟨_,ha,ka,ZL,da⟩:=um I.hok (yP sF ea);obtain⟨_,hb,kb,Gd,db⟩:=um I.hok (yP sF eb);refine⟨a,b,ka,kb,rfl,rfl,ha,hb,da,db,?_,ZJ I sF (by show X.A.units+1+19<cLine;omega) rb Gd ra ZL fun p hp=>⟨ZG nd p hp,cm _ (List.of_mem_zip hp).2⟩⟩
 rw[<- ZL.length,<- Gd.length,List.length_zip,List.length_zip,<- la,<- lb]
theorem ZM(hu:X.A.units+21<cLine):gJ X (compareOp .Eq) (lX X.K (qH false)):=by
 rintro pins s σ H x y u w Q I rx ry ⟨F,d1,d2,P,sF,r1,r2,⟨ks,xs,e1,e2,nd,cm,h⟩,k⟩;obtain⟨a,b,ka,kb,rfl,rfl,ha,hb,da,db,el,hits⟩:=ZK hu I sF e1 e2 nd cm r1 r2 rx ry;refine W.keq_eq ha hb da db (by omega) (fun _=>hits) ⟨.bl _,H,I,rfl,k _ _ F H (Gr.refl sF) ?_ h⟩
 unfold Rep;rw[el];simp
theorem z5j(hu:X.A.units+21<cLine):gJ X (compareOp .NotEq) (lX X.K (qH true)):=by
 rintro pins s σ H x y u w Q I rx ry ⟨F,d1,d2,P,sF,r1,r2,⟨ks,xs,e1,e2,nd,cm,h⟩,k⟩;obtain⟨a,b,ka,kb,rfl,rfl,ha,hb,da,db,el,hits⟩:=ZK hu I sF e1 e2 nd cm r1 r2 rx ry;refine W.keq_ne ha hb da db (by omega) (fun _=>hits) ⟨.bl _,H,I,rfl,k _ _ F H (Gr.refl sF) ?_ h⟩
 unfold Rep;rw[el];simp
end
end L3
namespace HM
theorem ZP(a b:Int):Int.gcd b (a.fmod b)=Int.gcd a b:=by
 rw[Int.fmod_def,Int.gcd_sub_mul_left_right,Int.gcd_comm]
theorem RM{a b:Int}(h:b≠0):(a.fmod b).natAbs<b.natAbs:=by
 rw[Int.fmod_eq_emod];have h1:=Int.emod_nonneg a h;have h2:=Int.emod_lt a h;split
 ·omega
 ·rename_i q;have q1:b<0:=by omega
  have q2:a % b≠0:=fun z=>q (.inr (Int.dvd_of_emod_eq_zero z));omega
def dv(t b:Int):Int:=if b<0 then -(Int.gcd t b:Int) else Int.gcd t b
def fr(t b:Int):Int×Int:=(t.fdiv (dv t b),b.fdiv (dv t b))
theorem Ge{t b:Int}(h:b≠0):dv t b≠0:=by
 unfold dv;have:Int.gcd t b≠0:=by
  intro e;exact h (Int.gcd_eq_zero_iff.mp e).2
 split<;>omega
theorem z0p(t b:Int):dv t b∣t:=by
 unfold dv;split
 ·exact Int.neg_dvd.mpr (Int.gcd_dvd_left ..)
 ·exact Int.gcd_dvd_left ..
theorem ZQ(t b:Int):dv t b∣b:=by
 unfold dv;split
 ·exact Int.neg_dvd.mpr (Int.gcd_dvd_right ..)
 ·exact Int.gcd_dvd_right ..
theorem Gf{a b:Int}(h:b∣a):b*a.fdiv b=a:=by
 rw[Int.fdiv_eq_ediv_of_dvd h];exact Int.mul_ediv_cancel' h
theorem JV(t b:Int):dv t b* (fr t b).1=t:=Gf (z0p t b)
theorem Gg(t b:Int):dv t b* (fr t b).2=b:=Gf (ZQ t b)
theorem RN{t b:Int}(h:b≠0):0< (fr t b).2:=by
 have e:=Gg t b;have n:=Ge (t:=t) h;generalize (fr t b).2=y at*;unfold dv at e n;split at e
 ·rename_i hb;have g0:(0:Int)<Int.gcd t b:=by
   rw[if_pos hb] at n;have:(0:Int)<=Int.gcd t b:=Int.natCast_nonneg _;omega
  rcases Int.lt_or_le 0 y with h | h
  ·exact h
  ·have:0<= -(Int.gcd t b:Int)*y:=by
    rw[Int.neg_mul,<- Int.mul_neg];exact Int.mul_nonneg (by omega) (by omega)
   omega
 ·rename_i hb;have g0:(0:Int)<Int.gcd t b:=by
   rw[if_neg hb] at n;have:(0:Int)<=Int.gcd t b:=Int.natCast_nonneg _;omega
  rcases Int.lt_or_le 0 y with h | h
  ·exact h
  ·have:(Int.gcd t b:Int)*y<=0:=Int.mul_nonpos_of_nonneg_of_nonpos (by omega) h
   omega
theorem RP{t b:Int}(h:b≠0):Int.gcd (fr t b).1 (fr t b).2=1:=by
 have e1:=JV t b;have e2:=Gg t b;have n:=Ge (t:=t) h;have e3:Int.gcd (dv t b* (fr t b).1) (dv t b* (fr t b).2)=(dv t b).natAbs*Int.gcd (fr t b).1 (fr t b).2:=Int.gcd_mul_left ..;rw[e1,e2] at e3;have e4:(dv t b).natAbs=Int.gcd t b:=by
  unfold dv;split<;>simp
 rw[e4] at e3;have g0:Int.gcd t b≠0:=fun z=>h (Int.gcd_eq_zero_iff.mp z).2;exact(Nat.eq_of_mul_eq_mul_left (Nat.pos_of_ne_zero g0) (by rw[Nat.mul_one];exact e3)).symm
theorem RQ{t b:Int}:(fr t b).1*b=t* (fr t b).2:=by
 have e1:=JV t b;have e2:=Gg t b
 calc (fr t b).1*b=(fr t b).1* (dv t b* (fr t b).2):=by rw[e2]
  _=(dv t b* (fr t b).1)* (fr t b).2:=by rw[<- Int.mul_assoc,Int.mul_comm (fr t b).1]
  _=t* (fr t b).2:=by rw[e1]
theorem ZR{a b c d:Int}(hb:0<b)(hd:0<d)(h1:Int.gcd a b=1)(h2:Int.gcd c d=1)(h:a*d=c*b):a=c/\b=d:=by
 have bd:b∣d:=by
  have:b∣a*d:=⟨c,by rw[h,Int.mul_comm]⟩
  have z:=Int.dvd_gcd_mul_iff_dvd_mul.mpr this;rw[Int.gcd_comm,h1] at z
  simpa using z
 have db:d∣b:=by
  have:d∣c*b:=⟨a,by rw[<- h,Int.mul_comm]⟩
  have z:=Int.dvd_gcd_mul_iff_dvd_mul.mpr this;rw[Int.gcd_comm,h2] at z
  simpa using z
 have e:b=d:=Int.dvd_antisymm (Int.le_of_lt hb) (Int.le_of_lt hd) bd db;subst e;exact⟨Int.eq_of_mul_eq_mul_right (Int.ne_of_gt hb) h,rfl⟩
theorem z5i{t b t' b' :Int}(h:b≠0)(h' :b' ≠0)(e:t*b' =t' *b):fr t b=fr t' b' :=by
 have c1:=RQ (t:=t) (b:=b);have c2:=RQ (t:=t') (b:=b');have p1:=RN (t:=t) h;have p2:=RN (t:=t') h';have k:(fr t b).1* (fr t' b').2=(fr t' b').1* (fr t b).2:=by
  generalize (fr t b).1=x at*;generalize (fr t b).2=y at*;generalize (fr t' b').1=x' at*;generalize (fr t' b').2=y' at*
  
  have:(x*y')* (b*b')=(x' *y)* (b*b'):=by
   calc (x*y')* (b*b')=(x*b)* (b' *y'):=by ac_rfl
    _=(t*y)* (b' *y'):=by rw[c1]
    _=(t*b')* (y*y'):=by ac_rfl
    _=(t' *b)* (y*y'):=by rw[e]
    _=(t' *y')* (b*y):=by ac_rfl
    _=(x' *b')* (b*y):=by rw[c2]
    _=(x' *y)* (b*b'):=by ac_rfl
  exact Int.eq_of_mul_eq_mul_right (Int.mul_ne_zero h h') this
 obtain⟨e1,e2⟩:=ZR p1 p2 (RP h) (RP h') k;exact Prod.ext e1 e2
theorem z37{a b:Int}(hb:0<b)(h:Int.gcd a b=1):fr a b=(a,b):=by
 have c1:=RQ (t:=a) (b:=b);obtain⟨e1,e2⟩:=ZR (RN (t:=a) (Int.ne_of_gt hb)) hb (RP (Int.ne_of_gt hb)) h (by rw[c1])
 exact Prod.ext e1 e2
theorem ZS{t b:Int}(h:b≠0):(fr t b).1.natAbs<=t.natAbs:=by
 have e:=congrArg Int.natAbs (JV t b);rw[Int.natAbs_mul] at e;have n:=Ge (t:=t) h;have:1<=(dv t b).natAbs:=by omega
 calc (fr t b).1.natAbs=1* (fr t b).1.natAbs:=by rw[Nat.one_mul]
  _<=(dv t b).natAbs* (fr t b).1.natAbs:=Nat.mul_le_mul_right _ this
  _=t.natAbs:=e
theorem ZV{t b:Int}(h:b≠0):(fr t b).2.natAbs<=b.natAbs:=by
 have e:=congrArg Int.natAbs (Gg t b);rw[Int.natAbs_mul] at e;have n:=Ge (t:=t) h;have:1<=(dv t b).natAbs:=by omega
 calc (fr t b).2.natAbs=1* (fr t b).2.natAbs:=by rw[Nat.one_mul]
  _<=(dv t b).natAbs* (fr t b).2.natAbs:=Nat.mul_le_mul_right _ this
  _=b.natAbs:=e
end HM
namespace L3
open PySem L2 HM
def qD(q:Rat):D:= .tup [.int q.num,.int q.den]
theorem z0x{t b:Int}(h:b≠0):fr t b=((Rat.divInt t b).num,((Rat.divInt t b).den:Int)):=by
 have hb:(0:Int)< (Rat.divInt t b).den:=by have:=(Rat.divInt t b).den_pos;omega
 have hg:Int.gcd (Rat.divInt t b).num (Rat.divInt t b).den=1:=by
  have:=(Rat.divInt t b).reduced;unfold Nat.Coprime at this
  simpa [Int.gcd] using this
 have e:(Rat.divInt t b).num*b=t* (Rat.divInt t b).den:=by
  have q:=Rat.num_divInt_den (Rat.divInt t b);rw[Rat.divInt_eq_divInt_iff (by omega) h] at q
  exact q
 have:=z5i (t:=t) (b:=b) (t' :=(Rat.divInt t b).num) (b' :=(Rat.divInt t b).den) h (by omega) e.symm
 rw[this,z37 hb hg]
theorem JW{t b:Int}(h:b≠0):fr t b=(((t:Rat)/ (b:Rat)).num,(((t:Rat)/ (b:Rat)).den:Int)):=by
 rw[z0x h,Rat.divInt_eq_div]
theorem JX(q:Rat):((q.den:Int):Rat)≠0:=by
 have:=q.den_pos;intro e;have:(q.den:Int)=0:=by exact_mod_cast e
 omega
theorem JZ(q:Rat):(q.num:Rat)/ ((q.den:Int):Rat)=q:=by
 have:=Rat.num_divInt_den q;rw[Rat.divInt_eq_div] at this;exact this
def Sz(n:Nat)(q:Rat):Prop:=bD q.num<=n/\bD (q.den:Int)<=n
theorem z36{t b:Int}{n:Nat}(h:b≠0)(h1:bD t<=n)(h2:bD b<=n):Sz n ((t:Rat)/ (b:Rat)):=by
 have e:=JW (t:=t) h;have e1:(fr t b).1=_:=congrArg Prod.fst e;have e2:(fr t b).2=_:=congrArg Prod.snd e;dsimp only at e1 e2;refine⟨zN (vR ?_) h1,zN (vR ?_) h2⟩
 ·rw[<- e1];exact ZS h
 ·rw[<- e2];exact ZV h
theorem z35(a b:Rat):a+b=((a.num*b.den+b.num*a.den:Int):Rat)/ ((a.den*b.den:Int):Rat):=by
 have ha:=JX a;have hb:=JX b;have h1:=JZ a;have h2:=JZ b;rw[Rat.intCast_add,Rat.intCast_mul,Rat.intCast_mul,Rat.intCast_mul];generalize (a.num:Rat)=x at*;generalize (b.num:Rat)=y at*;generalize ((a.den:Int):Rat)=u at*;generalize ((b.den:Int):Rat)=v at*;subst h1 h2
 grind
theorem z3g(a b:Rat):a - b=((a.num*b.den - b.num*a.den:Int):Rat)/ ((a.den*b.den:Int):Rat):=by
 have ha:=JX a;have hb:=JX b;have h1:=JZ a;have h2:=JZ b;rw[Rat.intCast_sub,Rat.intCast_mul,Rat.intCast_mul,Rat.intCast_mul];generalize (a.num:Rat)=x at*;generalize (b.num:Rat)=y at*;generalize ((a.den:Int):Rat)=u at*;generalize ((b.den:Int):Rat)=v at*;subst h1 h2
 grind
theorem ZW(a b:Rat):(a.den*b.den:Int)≠0:=Int.mul_ne_zero (by have:=a.den_pos;omega) (by have:=b.den_pos;omega)
theorem ZX{t b:Int}(h:b≠0):D.tup [.int (fr t b).1,.int (fr t b).2]=qD ((t:Rat)/ (b:Rat)):=by rw[JW h];rfl
theorem J0(i:Int):qD (i:Rat)= .tup [.int i,.int 1]:=rfl
theorem Z0{i:Int}{n:Nat}(h:bD i<=n)(hn:1<=n):Sz n (i:Rat):=⟨h,zN (gU (k:=1) (show(1:Nat)<2^1 by decide)) hn⟩
end L3
namespace HM
section
variable{α:Type}[DecidableEq α]
def aF(g hs:List α):Bool:=hs.any fun h=>decide (h∈g)
theorem bV{g hs:List α}:aF g hs=true↔∃x,x∈g/\x∈hs:=by
 unfold aF;rw[List.any_eq_true];exact⟨fun⟨x,h1,h2⟩=>⟨x,of_decide_eq_true h2,h1⟩,fun⟨x,h1,h2⟩=>⟨x,h2,decide_eq_true h1⟩⟩
theorem zvq{g hs:List α}(h:(!aF g hs)=true){x:α}(h1:x∈g):x∉hs:=fun h2=>by
 rw[bV.mpr ⟨x,h1,h2⟩] at h;cases h
structure dU (Ss fs:List (List α)):Prop where
 ne:∀f∈fs,f≠ []
 dj:fs.Pairwise fun a b=>∀x∈a,x∉b
 co:∀x,(∃f∈fs,x∈f)↔∃S∈Ss,x∈S
 sub:∀S∈Ss,∃f∈fs,∀x∈S,x∈f
 min:∀C:α ->Prop,(∀S∈Ss,(∃x∈S,C x) ->∀x∈S,C x) ->∀f∈fs,(∃x∈f,C x) ->∀x∈f,C x
theorem dU.nil:dU ([]:List (List α)) []:=by
 refine⟨?_,List.Pairwise.nil,?_,?_,?_⟩
 ·intro _ h;cases h
 ·intro x;constructor
  ·rintro⟨_,h,_⟩;cases h
  ·rintro⟨_,h,_⟩;cases h
 ·intro _ h;cases h
 ·intro _ _ _ h;cases h
theorem Bq:∀{fs:List (List α)},fs.Pairwise (fun a b=>∀x∈a,x∉b) ->∀{a b:List α} {x:α},a∈fs ->b∈fs ->x∈a ->x∈b ->a=b
 | [],_,_,_,_,ha,_,_,_=>by cases ha
 | f::fs,h,a,b,x,ha,hb,xa,xb=>by
  rw[List.pairwise_cons] at h;rcases zT.mp ha with e1 | ha1
  ·subst e1;rcases zT.mp hb with e | hb
   ·exact e.symm
   ·exact absurd xb (h.1 b hb x xa)
  ·rcases zT.mp hb with e | hb
   ·subst e;exact absurd xa (h.1 a (by assumption) x xb)
   ·exact Bq h.2 (by assumption) hb xa xb
theorem dU.step{Ss fs:List (List α)}{S g:List α}(h:dU Ss fs)(hS:S≠ [])(hg:∀x,x∈g↔x∈S\/∃f∈fs,aF f S=true/\x∈f):
  dU (Ss++ [S]) (fs.filter (fun f=> !aF f S)++ [g]):=by
 have mf:∀f,f∈fs.filter (fun f=> !aF f S)++ [g] ->(f∈fs/\ (!aF f S)=true)\/f=g:=fun f hf=>by
  rcases zR.mp hf with hf | hf
  ·exact .inl (zB.mp hf)
  ·exact .inr (zQ.mp hf)
 have mg:g∈fs.filter (fun f=> !aF f S)++ [g]:=zP _ (zQ.mpr rfl);have ml:∀f∈fs,(!aF f S)=true ->f∈fs.filter (fun f=> !aF f S)++ [g]:=fun f h1 h2=>zO _ (zB.mpr ⟨h1,h2⟩);refine⟨fun f hf=> ?_,?_,fun x=>⟨?_,?_⟩,fun T hT=> ?_,fun C hC f hf hx=> ?_⟩
 ·rcases mf f hf with hf | rfl
  ·exact h.ne f hf.1
  ·intro z;cases S with
   | nil=>exact hS rfl
   | cons x S=>
    have:=(hg x).mpr (.inl zW);rw[z] at this;cases this
 ·rw[List.pairwise_append];refine⟨h.dj.filter _,List.pairwise_singleton _ _,fun a ha b hb x xa=> ?_⟩;rw[List.mem_singleton.mp hb];obtain⟨ha,hn⟩:=zB.mp ha;intro xg;rcases(hg x).mp xg with xs | ⟨f,hf,hm,xf⟩
  ·exact zvq hn xa xs
  ·have:=Bq h.dj ha hf xa xf;subst this;rw[hm] at hn;cases hn
 ·rintro⟨f,hf,xf⟩;rcases mf f hf with hf | rfl
  ·obtain⟨T,hT,xT⟩:=(h.co x).mp ⟨f,hf.1,xf⟩;exact⟨T,zO _ hT,xT⟩
  ·rcases(hg x).mp xf with xs | ⟨f,hf,_,xf⟩
   ·exact⟨S,zP _ (zQ.mpr rfl),xs⟩
   ·obtain⟨T,hT,xT⟩:=(h.co x).mp ⟨f,hf,xf⟩;exact⟨T,zO _ hT,xT⟩
 ·rintro⟨T,hT,xT⟩;rcases zR.mp hT with hT | hT
  ·obtain⟨f,hf,xf⟩:=(h.co x).mpr ⟨T,hT,xT⟩;cases q:aF f S with
   | true=>exact⟨g,mg,(hg x).mpr (.inr ⟨f,hf,q,xf⟩)⟩
   | false=>exact⟨f,ml f hf (by rw[q];rfl),xf⟩
  ·rw[List.mem_singleton.mp hT] at xT;exact⟨g,mg,(hg x).mpr (.inl xT)⟩
 ·rcases zR.mp hT with hT | hT
  ·obtain⟨f,hf,k⟩:=h.sub T hT;cases q:aF f S with
   | true=>exact⟨g,mg,fun x hx=>(hg x).mpr (.inr ⟨f,hf,q,k x hx⟩)⟩
   | false=>exact⟨f,ml f hf (by rw[q];rfl),k⟩
  ·rw[List.mem_singleton.mp hT];exact⟨g,mg,fun x hx=>(hg x).mpr (.inl hx)⟩
 ·have RT:∀T∈Ss,(∃x∈T,C x) ->∀x∈T,C x:=fun T hT=>hC T (zO _ hT);have Z1:=hC S (zP _ (zQ.mpr rfl));rcases mf f hf with hf | rfl
  ·exact h.min C RT f hf.1 hx
  ·have all:∀x∈S,C x:=by
    obtain⟨x,xf,cx⟩:=hx;rcases(hg x).mp xf with xs | ⟨f,hf,hm,xf⟩
    ·exact Z1 ⟨x,xs,cx⟩
    ·have:=h.min C RT f hf ⟨x,xf,cx⟩;obtain⟨y,y1,y2⟩:=bV.mp hm;exact Z1 ⟨y,y2,this y y1⟩
   intro y hy;rcases(hg y).mp hy with ys | ⟨f,hf,hm,yf⟩
   ·exact all y ys
   ·obtain⟨z,z1,z2⟩:=bV.mp hm;exact h.min C RT f hf ⟨z,z1,all z z2⟩ y yf
theorem dU.incl{Ss uH fs fs' :List (List α)}(h:dU Ss fs)(h' :dU uH fs')(e:∀S∈Ss,∃S' ∈uH,∀x,x∈S↔x∈S'){f f' :List α}{x:α}(hf:f∈fs)(hf' :f' ∈fs')(h1:x∈f)(h2:x∈f'):∀y∈f,y∈f' :=by
 refine h.min (· ∈f') (fun S hS ⟨z,z1,z2⟩ y hy=> ?_) f hf ⟨x,h1,h2⟩;obtain⟨S',hS',k⟩:=e S hS;obtain⟨f2,hf2,k2⟩:=h'.sub S' hS';have:=Bq h'.dj hf' hf2 z2 (k2 z ((k z).mp z1));subst this;exact k2 y ((k y).mp hy)
theorem dU.same{Ss uH fs fs' :List (List α)}(h:dU Ss fs)(h' :dU uH fs')(e:∀S∈Ss,∃S' ∈uH,∀x,x∈S↔x∈S')(e' :∀S∈uH,∃S' ∈Ss,∀x,x∈S↔x∈S'){f:List α}(hf:f∈fs):∃f' ∈fs',∀x,x∈f↔x∈f' :=by
 cases q:f with
 | nil=>exact absurd q (h.ne f hf)
 | cons x r=>
  rw[<- q];have hx:x∈f:=by rw[q];exact zW
  obtain⟨S,hS,xS⟩:=(h.co x).mp ⟨f,hf,hx⟩;obtain⟨S',hS',k⟩:=e S hS;obtain⟨f',hf',Z2⟩:=(h'.co x).mpr ⟨S',hS',(k x).mp xS⟩;exact⟨f',hf',fun y=>⟨fun hy=>h.incl h' e hf hf' hx Z2 y hy,fun hy=>h'.incl h e' hf' hf Z2 hx y hy⟩⟩
theorem dU.perm{Ss fs gs:List (List α)}(h:dU Ss fs)(p:gs.Perm fs):dU Ss gs:=by
 refine⟨fun f hf=>h.ne f (p.mem_iff.mp hf),?_,fun x=> ?_,fun S hS=> ?_,fun C hC f hf=>h.min C hC f (p.mem_iff.mp hf)⟩
 ·exact(p.pairwise_iff (fun{a b} k x xb xa=>k x xa xb)).mpr h.dj
 ·rw[<- h.co x];exact⟨fun⟨f,hf,k⟩=>⟨f,p.mem_iff.mp hf,k⟩,fun⟨f,hf,k⟩=>⟨f,p.mem_iff.mpr hf,k⟩⟩
 ·obtain⟨f,hf,k⟩:=h.sub S hS;exact⟨f,p.mem_iff.mpr hf,k⟩
inductive Alike:List (List α) ->List (List α) ->Prop
 | nil:Alike [] []
 | cons {f g:List α} {fs gs:List (List α)} (h:∀x,x∈f↔x∈g) (r:Alike fs gs):Alike (f::fs) (g::gs)
theorem Alike.sym{fs gs:List (List α)}(h:Alike fs gs):Alike gs fs:=by
 induction h with
 | nil=>exact .nil
 | cons h _ ih=>exact .cons (fun x=>(h x).symm) ih
theorem Alike.mem{fs gs:List (List α)}(h:Alike fs gs){f:List α}(hf:f∈fs):∃g∈gs,∀x,x∈f↔x∈g:=by
 induction h with
 | nil=>cases hf
 | @cons f0 g0 fs gs k _ ih=>
  rcases zT.mp hf with rfl | hf
  ·exact⟨g0,zW,k⟩
  ·obtain⟨g,hg,k⟩:=ih hf;exact⟨g,zV _ hg,k⟩
theorem Alike.dj{fs gs:List (List α)}(h:Alike fs gs)(d:fs.Pairwise fun a b=>∀x∈a,x∉b):gs.Pairwise fun a b=>∀x∈a,x∉b:=by
 induction h with
 | nil=>exact .nil
 | @cons f0 g0 fs gs k r ih=>
  rw[List.pairwise_cons] at d⊢;refine⟨fun b hb x xg xb=> ?_,ih d.2⟩;obtain⟨f,hf,kk⟩:=r.sym.mem hb;exact d.1 f hf x ((k x).mpr xg) ((kk x).mp xb)
theorem dU.alike{Ss fs gs:List (List α)}(h:dU Ss fs)(p:Alike fs gs):dU Ss gs:=by
 refine⟨fun g hg z=> ?_,p.dj h.dj,fun x=> ?_,fun S hS=> ?_,fun C hC g hg hx y hy=> ?_⟩
 ·obtain⟨f,hf,k⟩:=p.sym.mem hg;refine h.ne f hf (List.eq_nil_iff_forall_not_mem.mpr fun x hx=> ?_);have:=(k x).mpr hx;rw[z] at this;cases this
 ·rw[<- h.co x];constructor
  ·rintro⟨g,hg,xg⟩;obtain⟨f,hf,k⟩:=p.sym.mem hg;exact⟨f,hf,(k x).mp xg⟩
  ·rintro⟨f,hf,xf⟩;obtain⟨g,hg,k⟩:=p.mem hf;exact⟨g,hg,(k x).mp xf⟩
 ·obtain⟨f,hf,k⟩:=h.sub S hS;obtain⟨g,hg,kk⟩:=p.mem hf;exact⟨g,hg,fun x hx=>(kk x).mp (k x hx)⟩
 ·obtain⟨f,hf,k⟩:=p.sym.mem hg;obtain⟨x,xg,cx⟩:=hx;exact h.min C hC f hf ⟨x,(k x).mp xg,cx⟩ y ((k y).mp hy)
theorem RV{β:Type}{R:β ->β ->Prop}(as:∀a b,R a b ->¬R b a):∀{l m:List β},l.Pairwise R ->m.Pairwise R ->(∀x,x∈l↔x∈m) ->l=m
 | [],[],_,_,_=>rfl
 | [],b::m,_,_,h=>by have:=(h b).mpr zW;cases this
 | a::l,[],_,_,h=>by have:=(h a).mp zW;cases this
 | a::l,b::m,h1,h2,h=>by
  rw[List.pairwise_cons] at h1 h2;have e:a=b:=by
   rcases zT.mp ((h a).mp zW) with e | q
   ·exact e
   ·rcases zT.mp ((h b).mpr zW) with e | q'
    ·exact e.symm
    ·exact absurd (h1.1 b q') (as _ _ (h2.1 a q))
  subst e;have Q7:¬R a a:=fun z=>as a a z z;rw[RV as h1.2 h2.2 fun x=>⟨fun hx=> ?_,fun hx=> ?_⟩]
  ·rcases zT.mp ((h x).mp (zV _ hx)) with e | q
   ·subst e;exact absurd (h1.1 _ hx) Q7
   ·exact q
  ·rcases zT.mp ((h x).mpr (zV _ hx)) with e | q
   ·subst e;exact absurd (h2.1 _ hx) Q7
   ·exact q
theorem wz:∀{l U:List α},l.Nodup ->(∀x∈l,x∈U) ->l.length<=U.length
 | [],U,_,_=>Nat.zero_le _
 | a::l,U,nd,h=>by
  have nd' :=List.nodup_cons.mp nd;have ha:=h a zW;have:=wz (l:=l) (U:=U.erase a) nd'.2 fun x hx=>by
   have ne:x≠a:=fun z=>nd'.1 (z ▸ hx);exact(List.mem_erase_of_ne ne).mpr (h x (zV _ hx))
  rw[List.length_erase_of_mem ha] at this;have:0<U.length:=List.length_pos_of_mem ha;rw[List.length_cons];omega
theorem Gh:∀{fs:List (List α)},fs.Pairwise (fun a b=>∀x∈a,x∉b) ->(∀f∈fs,f.Nodup) ->fs.flatten.Nodup
 | [],_,_=>by simp
 | f::fs,h,k=>by
  rw[List.pairwise_cons] at h;rw[List.flatten_cons,List.nodup_append];refine⟨k f zW,Gh h.2 fun g hg=>k g (zV _ hg),fun a ha b hb e=> ?_⟩;subst e;obtain⟨g,hg,ag⟩:=List.mem_flatten.mp hb;exact h.1 g hg a ha ag
end
def aR(g:Nat ->List Nat ->Rat):List Nat ->Rat
 | []=>0
 | c::cs=>g c cs - aR (fun d ds=>g d (c::ds)) cs
abbrev Row:=Nat ->Rat
def dt:List Row ->List Nat ->Rat
 | [],[]=>1
 | [],_::_=>0
 | r::rs,cs=>aR (fun c ds=>r c*dt rs ds) cs
theorem RW{g h:Nat ->List Nat ->Rat}:∀{cs:List Nat},(∀c ds,g c ds=h c ds) ->aR g cs=aR h cs
 | [],_=>rfl
 | c::cs,e=>by
  unfold aR;rw[e,RW (cs:=cs) fun d ds=>e d (c::ds)]
theorem RX{g h:Nat ->List Nat ->Rat}:∀{cs:List Nat},aR (fun c ds=>g c ds+h c ds) cs=aR g cs+aR h cs
 | []=>by unfold aR;grind
 | c::cs=>by
  unfold aR;rw[RX (cs:=cs)]
  grind
theorem Gi{g:Nat ->List Nat ->Rat}(k:Rat):∀{cs:List Nat},aR (fun c ds=>k*g c ds) cs=k*aR g cs
 | []=>by unfold aR;grind
 | c::cs=>by
  unfold aR;rw[Gi k (cs:=cs)]
  grind
theorem J1{g:Nat ->List Nat ->Rat}:∀{cs:List Nat},(∀c∈cs,∀ds,g c ds=0) ->aR g cs=0
 | [],_=>rfl
 | c::cs,h=>by
  unfold aR;rw[h c List.mem_cons_self,J1 (cs:=cs) fun d hd ds=>h d (List.mem_cons_of_mem _ hd) _]
  grind
def two(r s:Row)(h:List Nat ->Rat)(cs:List Nat):Rat:=aR (fun c ds=>r c*aR (fun d es=>s d*h es) ds) cs
theorem Z4(r s:Row):∀(cs:List Nat) (h:List Nat ->Rat),two r s h cs= - two s r h cs
 | [],h=>by unfold two aR;grind
 | c::cs,h=>by
  have key:∀r s:Row,two r s h (c::cs)=r c*aR (fun d es=>s d*h es) cs - s c*aR (fun d es=>r d*h es) cs+two r s (fun es=>h (c::es)) cs:=by
   intro r s;show r c*aR (fun d es=>s d*h es) cs - aR (fun x ds=>r x*aR (fun d es=>s d*h es) (c::ds)) cs=_;have e:(fun(x:Nat) (ds:List Nat)=>r x*aR (fun d es=>s d*h es) (c::ds))=fun x ds=>(s c* (r x*h ds))+ (-1)* (r x*aR (fun d es=>s d*h (c::es)) ds):=by
    funext x ds
    show r x* (s c*h ds - aR (fun d es=>s d*h (c::es)) ds)=_
    grind
   rw[e,RX,Gi,Gi];unfold two
   grind
  rw[key r s,key s r,Z4 r s cs]
  grind
theorem Z5(r s:Row)(rs:List Row)(cs:List Nat):dt (r::s::rs) cs= - dt (s::r::rs) cs:=Z4 r s cs (dt rs)
theorem half{x:Rat}(h:x= -x):x=0:=by grind
theorem Z6{r:Row}:∀{rs:List Row} {cs:List Nat},r∈rs ->dt (r::rs) cs=0
 | [],_,h=>by cases h
 | s::rs,cs,h=>by
  rcases zT.mp h with e | h
  ·subst e;exact half (Z5 r r rs cs)
  ·rw[Z5];have:dt (s::r::rs) cs=0:=J1 fun c _ ds=>by
    show s c*dt (r::rs) ds=0;rw[Z6 h];grind
   rw[this];grind
def comb:List Rat ->List Row ->Row
 | k::ks,r::rs=>fun j=>k*r j+comb ks rs j
 | _,_=>fun _=>0
theorem z4j(r s:Row)(k:Rat)(rs:List Row)(cs:List Nat):dt ((fun j=>r j+k*s j)::rs) cs=dt (r::rs) cs+k*dt (s::rs) cs:=by
 show aR (fun c ds=>(r c+k*s c)*dt rs ds) cs=aR (fun c ds=>r c*dt rs ds) cs+k*aR (fun c ds=>s c*dt rs ds) cs;rw[<- Gi,<- RX];exact RW fun c ds=>by grind
theorem Gj{rs:List Row}{cs:List Nat}:∀{ks:List Rat} {ss:List Row} {r:Row},(∀s∈ss,s∈rs) ->dt ((fun j=>r j+comb ks ss j)::rs) cs=dt (r::rs) cs
 | [],ss,r,_=>by
  have:(fun j=>r j+comb [] ss j)=r:=by funext j;unfold comb;grind
  rw[this]
 | k::ks,[],r,_=>by
  have:(fun j=>r j+comb (k::ks) [] j)=r:=by funext j;unfold comb;grind
  rw[this]
 | k::ks,s::ss,r,h=>by
  have e:(fun j=>r j+comb (k::ks) (s::ss) j)=fun j=>(fun j=>r j+comb ks ss j) j+k*s j:=by
   funext j
   show r j+ (k*s j+comb ks ss j)=_
   grind
  rw[e,z4j,Gj (ks:=ks) fun t ht=>h t (List.mem_cons_of_mem _ ht),Z6 (h s List.mem_cons_self)]
  grind
theorem J2{r:Row}{rs:List Row}{j:Nat}{cs:List Nat}(h:∀c∈cs,r c=0):dt (r::rs) (j::cs)=r j*dt rs cs:=by
 show r j*dt rs cs - aR (fun d ds=>r d*dt rs (j::ds)) cs=_;rw[J1 fun c hc ds=>by rw[h c hc];grind]
 grind
def Gk(f:List Nat ->Rat):Prop:=∀pre c d post,f (pre++c::d::post)= - f (pre++d::c::post)
theorem Z7:∀(pre:List Nat) (g:Nat ->List Nat ->Rat) (c d:Nat) (post:List Nat),(∀x,Gk (g x)) ->aR g (pre++c::d::post)= - aR g (pre++d::c::post)
 | [],g,c,d,post,h=>by
  have key:∀c d,aR g (c::d::post)=g c (d::post) - g d (c::post)+aR (fun x es=>g x (c::d::es)) post:=by
   intro c d;show g c (d::post) - (g d (c::post) - aR (fun x es=>g x (c::d::es)) post)=_
   grind
  have e:aR (fun x es=>g x (d::c::es)) post=(-1)*aR (fun x es=>g x (c::d::es)) post:=by
   rw[<- Gi];exact RW fun x es=>by
    have:=h x [] d c es;simp only [List.nil_append] at this;rw[this];grind
  show aR g (c::d::post)= - aR g (d::c::post);rw[key c d,key d c,e]
  grind
 | a::pre,g,c,d,post,h=>by
  show g a (pre++c::d::post) - aR (fun x ds=>g x (a::ds)) (pre++c::d::post)= - (g a (pre++d::c::post) - aR (fun x ds=>g x (a::ds)) (pre++d::c::post));rw[h a pre c d post,Z7 pre (fun x ds=>g x (a::ds)) c d post fun x p c d q=>h x (a::p) c d q]
  grind
theorem J3:∀rs:List Row,Gk (dt rs)
 | []=>fun pre c d post=>by cases pre<;>(unfold dt;grind)
 | r::rs=>fun pre c d post=>Z7 pre _ c d post fun x p a b q=>by
   show r x*dt rs (p++a::b::q)= - (r x*dt rs (p++b::a::q));rw[J3 rs p a b q]
   grind
theorem Gn(rs:List Row):∀{post pre:List Nat} {c:Nat},c∈post ->dt rs (pre++c::post)=0
 | [],_,_,h=>by cases h
 | d::post,pre,c,h=>by
  rcases zT.mp h with e | h
  ·subst e;exact half (J3 rs pre c c post)
  ·rw[J3 rs pre c d post];have:=Gn rs (pre:=pre++ [d]) h;rw[List.append_assoc] at this;rw[show pre++d::c::post=pre++ ([d]++c::post) from rfl,this];grind
def fC(rs:List Row)(f:Row):Prop:=∃ks:List Rat,ks.length=rs.length/\∀j,f j=comb ks rs j
theorem Z8:∀{ks ls:List Rat} {rs:List Row},ks.length=rs.length ->ls.length=rs.length ->∃ms:List Rat,ms.length=rs.length/\∀j,comb ms rs j=comb ks rs j+comb ls rs j
 | [],[],[],_,_=>⟨[],rfl,fun j=>by unfold comb;grind⟩
 | k::ks,l::ls,r::rs,h1,h2=>by
  obtain⟨ms,h3,h4⟩:=Z8 (ks:=ks) (ls:=ls) (rs:=rs) (by simpa using h1) (by simpa using h2)
  refine⟨(k+l)::ms,by simp [h3],fun j=> ?_⟩
  show(k+l)*r j+comb ms rs j=(k*r j+comb ks rs j)+ (l*r j+comb ls rs j);rw[h4];grind
 | [],_,_::_,h,_=>by cases h
 | _::_,_,[],h,_=>by cases h
 | _,[],_::_,_,h=>by cases h
 | _,_::_,[],_,h=>by cases h
theorem Z9(x:Rat):∀{ks:List Rat} {rs:List Row},ks.length=rs.length ->∃ms:List Rat,ms.length=rs.length/\∀j,comb ms rs j=x*comb ks rs j
 | [],[],_=>⟨[],rfl,fun j=>by unfold comb;grind⟩
 | k::ks,r::rs,h1=>by
  obtain⟨ms,h3,h4⟩:=Z9 x (ks:=ks) (rs:=rs) (by simpa using h1)
  refine⟨(x*k)::ms,by simp [h3],fun j=> ?_⟩
  show(x*k)*r j+comb ms rs j=x* (k*r j+comb ks rs j);rw[h4];grind
 | [],_::_,h=>by cases h
 | _::_,[],h=>by cases h
theorem fC.add{rs:List Row}{f g:Row}(h1:fC rs f)(h2:fC rs g):fC rs fun j=>f j+g j:=by
 obtain⟨ks,a,b⟩:=h1;obtain⟨ls,c,d⟩:=h2;obtain⟨ms,e,q⟩:=Z8 a c;exact⟨ms,e,fun j=>by show f j+g j=_;rw[q,b,d]⟩
theorem fC.mul{rs:List Row}{f:Row}(x:Rat)(h:fC rs f):fC rs fun j=>x*f j:=by
 obtain⟨ks,a,b⟩:=h;obtain⟨ms,e,q⟩:=Z9 x a;exact⟨ms,e,fun j=>by show x*f j=_;rw[q,b]⟩
theorem RZ:∀(rs:List Row),∀j,comb (rs.map fun _=>0) rs j=0
 | [],j=>by unfold List.map comb;rfl
 | r::rs,j=>by
  show 0*r j+comb (rs.map fun _=>0) rs j=0;rw[RZ rs j];grind
theorem fC.zero(rs:List Row):fC rs fun _=>0:=⟨rs.map fun _=>0,by simp,fun j=>(RZ rs j).symm⟩
theorem fC.cons{rs:List Row}{f:Row}(r:Row)(h:fC rs f):fC (r::rs) f:=by
 obtain⟨ks,a,b⟩:=h;refine⟨0::ks,by simp [a],fun j=> ?_⟩
 show f j=0*r j+comb ks rs j;rw[b];grind
theorem fC.head(r:Row)(rs:List Row):fC (r::rs) r:=by
 refine⟨1::rs.map fun _=>0,by simp,fun j=> ?_⟩
 show r j=1*r j+comb (rs.map fun _=>0) rs j;rw[RZ];grind
theorem fC.mem{r:Row}:∀{rs:List Row},r∈rs ->fC rs r
 | s::rs,h=>by
  rcases zT.mp h with e | h
  ·subst e;exact fC.head r rs
  ·exact(fC.mem h).cons s
theorem fC.congr{rs:List Row}{f g:Row}(h:fC rs f)(e:∀j,g j=f j):fC rs g:=by
 obtain⟨ks,a,b⟩:=h;exact⟨ks,a,fun j=>by rw[e,b]⟩
theorem zuw{rs:List Row}:∀{cs:List Nat} {g:Nat ->Nat ->List Nat ->Rat},(∀x ds,fC rs fun j=>g j x ds) ->fC rs fun j=>aR (g j) cs
 | [],g,_=>fC.zero rs
 | c::cs,g,h=>by
  have h1:=h c cs;have h2:=(zuw (cs:=cs) (g:=fun j x ds=>g j x (c::ds)) fun x ds=>h x (c::ds)).mul (-1);exact(h1.add h2).congr fun j=>by
   show g j c cs - aR (fun d ds=>g j d (c::ds)) cs=_
   grind
theorem zqh:∀(rs:List Row) (cs:List Nat),fC rs fun j=>dt rs (j::cs)
 | [],cs=>⟨[],rfl,fun j=>by unfold dt comb;rfl⟩
 | r::rs,cs=>by
  have h1:=(fC.head r rs).mul (dt rs cs);have h2:fC (r::rs) fun j=>aR (fun x ds=>r x*dt rs (j::ds)) cs:=zuw fun x ds=>(((zqh rs ds).cons r).mul (r x));exact(h1.add (h2.mul (-1))).congr fun j=>by
   show r j*dt rs cs - aR (fun d ds=>r d*dt rs (j::ds)) cs=_
   grind
theorem R7(rs:List Row):∀(n:Nat) (pre post:List Nat),pre.length=n ->fC rs fun j=>dt rs (pre++j::post)
 | 0,pre,post,h=>by
  have:=List.length_eq_zero_iff.mp h;subst this;exact zqh rs post
 | n+1,pre,post,h=>by
  have hne:pre≠ []:=fun z=>by subst z;cases h
  have e:=List.dropLast_concat_getLast hne;have ih:=(R7 rs n pre.dropLast (pre.getLast hne::post) (by simp [h])).mul (-1)
  refine ih.congr fun j=> ?_;have e2:pre.dropLast++pre.getLast hne::j::post=pre++j::post:=by
   have:=congrArg (· ++j::post) e
   simpa only [List.append_assoc,List.singleton_append] using this
  rw[<- e2,J3 rs pre.dropLast (pre.getLast hne) j post]
  grind
def kh(x:Rat):Prop:=∃z:Int,x=(z:Rat)
theorem kh.sub{x y:Rat}(h1:kh x)(h2:kh y):kh (x - y):=by
 obtain⟨a,rfl⟩:=h1;obtain⟨b,rfl⟩:=h2;exact⟨a - b,by simp [Rat.intCast_sub]⟩
theorem kh.mul{x y:Rat}(h1:kh x)(h2:kh y):kh (x*y):=by
 obtain⟨a,rfl⟩:=h1;obtain⟨b,rfl⟩:=h2;exact⟨a*b,by simp [Rat.intCast_mul]⟩
theorem zuk{g:Nat ->List Nat ->Rat}:∀{cs:List Nat},(∀c ds,kh (g c ds)) ->kh (aR g cs)
 | [],_=>⟨0,by unfold aR;rfl⟩
 | c::cs,h=>(h c cs).sub (zuk (cs:=cs) fun d ds=>h d (c::ds))
theorem R8:∀{rs:List Row} {cs:List Nat},(∀r∈rs,∀j,kh (r j)) ->kh (dt rs cs)
 | [],[],_=>⟨1,by unfold dt;rfl⟩
 | [],_::_,_=>⟨0,by unfold dt;rfl⟩
 | r::rs,cs,h=>zuk fun c ds=>(h r zW c).mul (R8 fun s hs=>h s (zV _ hs))
theorem R9{rs:List Row}{cs:List Nat}{f:Row}(h:fC rs f)(z:∀c∈cs,f c=0)(d:dt rs cs≠0)(j:Nat):f j=0:=by
 obtain⟨ks,_,e⟩:=h;have h1:dt (f::rs) (j::cs)=f j*dt rs cs:=J2 z;have h2:dt (f::rs) (j::cs)=dt ((fun _=>0)::rs) (j::cs):=by
  have:=Gj (rs:=rs) (cs:=j::cs) (ks:=ks) (ss:=rs) (r:=fun _=>0) fun s hs=>hs;rw[<- this]
  congr 2
  funext i
  rw[e];grind
 have h3:dt ((fun _=>0)::rs) (j::cs)=0:=J1 fun c _ ds=>by show 0*dt rs ds=0;grind
 rw[h3,h1] at h2;rcases Rat.mul_eq_zero.mp h2 with q | q
 ·exact q
 ·exact absurd q d
theorem z0i{rs:List Row}{cs:List Nat}{a f g:Row}(hf:∀j,f j=a j+g j)(hg:fC rs g)(z:∀c∈cs,f c=0)(wa:∀j,kh (a j))(wr:∀r∈rs,∀j,kh (r j))(j:Nat):kh (dt rs cs*f j):=by
 obtain⟨ks,_,e⟩:=hg;have h1:dt (f::rs) (j::cs)=f j*dt rs cs:=J2 z;have h2:dt (f::rs) (j::cs)=dt (a::rs) (j::cs):=by
  have:=Gj (rs:=rs) (cs:=j::cs) (ks:=ks) (ss:=rs) (r:=a) fun s hs=>hs;rw[<- this]
  congr 2
  funext i
  rw[hf,e]
 rw[Rat.mul_comm,<- h1,h2];exact R8 fun r hr=>by
  rcases zT.mp hr with q | q
  ·subst q;exact wa
  ·exact wr r q
theorem z4l{rs:List Row}{pre post:List Nat}{c:Nat}{f:Row}(h:fC rs f)(one:f c=1)(z:∀x∈pre++post,f x=0)(wr:∀r∈rs,∀j,kh (r j))(d:dt rs (pre++c::post)≠0)(j:Nat):kh (dt rs (pre++c::post)*f j):=by
 have hl:=R7 rs _ pre post rfl;have e:dt rs (pre++j::post)=dt rs (pre++c::post)*f j:=by
  have key:=R9 (cs:=pre++c::post) (hl.add ((h.mul (dt rs (pre++c::post))).mul (-1))) (fun x hx=> ?_) d j
  ·grind
  ·by_cases hc:x=c
   ·subst hc;rw[one];grind
   ·have hx' :x∈pre++post:=by
     rcases zR.mp hx with q | q
     ·exact zO _ q
     ·rcases zT.mp q with q | q
      ·exact absurd q hc
      ·exact zP _ q
    rw[z x hx'];have:dt rs (pre++x::post)=0:=by
     rcases zR.mp hx' with q | q
     ·obtain⟨p1,p2,rfl⟩:=List.append_of_mem q;have:=Gn rs (pre:=p1) (post:=p2++x::post) (c:=x) (by simp)
      rw[List.append_assoc];exact this
     ·exact Gn rs q
    rw[this];grind
 rw[<- e];exact R8 wr
structure Low (rs:List Row) (cs:List Nat) (a f:Row):Prop where
 g:∃g:Row,fC rs g/\∀j,f j=a j+g j
 z:∀c∈cs,f c=0
structure Up (rs:List Row) (cs:List Nat) (c:Nat) (f:Row):Prop where
 l:fC rs f
 o:f c=1
 z:∀x∈cs,x≠c ->f x=0
theorem Low.dt{rs:List Row}{cs:List Nat}{a f:Row}(h:Low rs cs a f)(p:Nat):HM.dt (a::rs) (p::cs)=f p*HM.dt rs cs:=by
 obtain⟨⟨g,⟨ks,_,e⟩,hf⟩,z⟩:=h;have h1:HM.dt (f::rs) (p::cs)=f p*HM.dt rs cs:=J2 z;have h2:HM.dt (f::rs) (p::cs)=HM.dt (a::rs) (p::cs):=by
  have:=Gj (rs:=rs) (cs:=p::cs) (ks:=ks) (ss:=rs) (r:=a) fun s hs=>hs;rw[<- this]
  congr 2
  funext i
  rw[hf,e]
 rw[<- h2,h1]
theorem Low.lin{rs:List Row}{cs:List Nat}{a f:Row}(h:Low rs cs a f):fC (a::rs) f:=by
 obtain⟨⟨g,l,hf⟩,_⟩:=h;exact((fC.head a rs).add (l.cons a)).congr hf
theorem Low.step{rs:List Row}{cs:List Nat}{a b q f:Row}{p:Nat}(hq:Low rs cs a q)(hp:q p≠0)(h:Low rs cs b f):Low (a::rs) (p::cs) b (fun j=>f j - f p/q p*q j):=by
 obtain⟨g,l,hf⟩:=h.g;refine⟨⟨_,(l.cons a).add (hq.lin.mul (-(f p/q p))),fun j=>by show f j - f p/q p*q j=b j+ (g j+ -(f p/q p)*q j);rw[hf j];grind⟩,fun c hc=> ?_⟩
 rcases zT.mp hc with e | hc
 ·subst e;show f c - f c/q c*q c=0;rw[Rat.div_mul_cancel hp];grind
 ·show f c - f p/q p*q c=0;rw[h.z c hc,hq.z c hc];grind
theorem Up.step{rs:List Row}{cs:List Nat}{a q f:Row}{p c:Nat}(hq:Low rs cs a q)(hp:q p≠0)(h:Up rs cs c f)(hc:c∈cs):Up (a::rs) (p::cs) c (fun j=>f j - f p/q p*q j):=by
 refine⟨((h.l.cons a).add (hq.lin.mul (-(f p/q p)))).congr fun j=>by show f j - f p/q p*q j=f j+ -(f p/q p)*q j;grind,?_,fun x hx n=> ?_⟩
 ·show f c - f p/q p*q c=1;rw[h.o,hq.z c hc];grind
 ·rcases zT.mp hx with e | hx
  ·subst e;show f x - f x/q x*q x=0;rw[Rat.div_mul_cancel hp];grind
  ·show f x - f p/q p*q x=0;rw[h.z x hx n,hq.z x hx];grind
theorem Up.new{rs:List Row}{cs:List Nat}{a q:Row}{p:Nat}(hq:Low rs cs a q)(hp:q p≠0):Up (a::rs) (p::cs) p (fun j=>q j/q p):=by
 refine⟨(hq.lin.mul (1/q p)).congr fun j=>by show q j/q p=1/q p*q j;grind,?_,fun x hx n=> ?_⟩
 ·show q p/q p=1
  grind
 ·rcases zT.mp hx with e | hx
  ·exact absurd e n
  ·show q x/q p=0;rw[hq.z x hx];grind
def cols:Nat ->List Nat
 | 0=> []
 | p+1=>p::cols p
theorem eG{x:Nat}:∀{p:Nat},x∈cols p↔x<p
 | 0=>by simp [cols]
 | p+1=>by
  unfold cols;rw[List.mem_cons,eG];omega
theorem Sd:∀p,(cols p).Nodup
 | 0=>List.nodup_nil
 | p+1=>by
  unfold cols;exact List.nodup_cons.mpr ⟨fun h=>by have:=eG.mp h;omega,Sd p⟩
def dw(A:Nat ->Nat ->Int)(k:Nat):Row:=fun j=>(A k j:Rat)
theorem zqs(A:Nat ->Nat ->Int)(k j:Nat):kh (dw A k j):=⟨_,rfl⟩
structure BT (n:Nat) (A:Nat ->Nat ->Int) (p:Nat) (d:Int) (tb:Nat ->Nat ->Int) (rs:List Row) (fs:Nat ->Row) (ix:Nat ->Nat):Prop where
 w:∀r∈rs,∃k,k<n/\r=dw A k
 de:(d:Rat)=dt rs (cols p)
 nz:d≠0
 up:∀i,i<p ->Up rs (cols p) i (fs i)
 lo:∀i,p<=i ->i<n ->ix i<n/\Low rs (cols p) (dw A (ix i)) (fs i)
 all:∀k,k<n ->dw A k∈rs\/∃i,p<=i/\i<n/\ix i=k
 t:∀i,i<n ->∀j,(tb i j:Rat)=d*fs i j
theorem zxt(n:Nat)(A:Nat ->Nat ->Int):BT n A 0 1 A [] (dw A) id:=by
 refine⟨fun r h=>(by cases h),?_,by decide,fun i h=>absurd h (Nat.not_lt_zero _),fun i _ h=>⟨h,⟨_,fC.zero [],fun j=>by show dw A i j=dw A i j+0;grind⟩,fun c h=>by cases h⟩,fun k h=> .inr ⟨k,Nat.zero_le _,h,rfl⟩,fun i _ j=> ?_⟩
 ·unfold cols HM.dt;rfl
 ·show(A i j:Rat)=1* (A i j:Rat)
  grind
theorem BT.dz{n p:Nat}{A:Nat ->Nat ->Int}{d:Int}{tb:Nat ->Nat ->Int}{rs:List Row}{fs:Nat ->Row}{ix:Nat ->Nat}(h:BT n A p d tb rs fs ix):dt rs (cols p)≠0:=by
 rw[<- h.de];exact fun z=>h.nz (by exact_mod_cast z)
theorem z02{n:Nat}{rs:List Row}{p:Nat}{f:Row}(wr:∀r∈rs,∀j,kh (r j))(dz:dt rs (cols p)≠0)(h:(∃c,c<p/\Up rs (cols p) c f)\/∃a,(∀j,kh (a j))/\Low rs (cols p) a f)(j:Nat):kh (dt rs (cols p)*f j):=by
 rcases h with ⟨c,hc,u⟩ | ⟨a,wa,l⟩
 ·obtain⟨pre,post,e⟩:=List.append_of_mem (eG.mpr hc);have nd:=Sd p;rw[e] at nd;have key:=z4l (rs:=rs) (pre:=pre) (post:=post) (c:=c) (f:=f) u.l u.o (fun x hx=> ?_) wr (by rw[<- e];exact dz) j
  ·rw[e];exact key
  ·refine u.z x ?_ fun z=> ?_
   ·rw[e];rcases zR.mp hx with q | q
    ·exact zO _ q
    ·exact zP _ (zV _ q)
   ·subst z;rw[List.nodup_append] at nd;rcases zR.mp hx with q | q
    ·exact nd.2.2 x q x zW rfl
    ·exact(List.nodup_cons.mp nd.2.1).1 q
 ·obtain⟨g,lg,hf⟩:=l.g;exact z0i hf lg l.z wa wr j
def jt(p s i:Nat):Nat:=if i=p then s else if i=s then p else i
def nextT(p s:Nat)(d:Int)(tb:Nat ->Nat ->Int):Nat ->Nat ->Int:=fun i j=>if i=p then tb s j else(tb s p*tb (jt p s i) j - tb (jt p s i) p*tb s j).fdiv d
theorem zzz{x d z:Int}(d0:d≠0)(e:x=d*z):x.fdiv d=z:=by
 rw[e,Int.mul_comm,Int.mul_fdiv_cancel _ d0]
theorem yR{a b:Int}(h:(a:Rat)=(b:Rat)):a=b:=by exact_mod_cast h
theorem BT.step{n p s:Nat}{A:Nat ->Nat ->Int}{d:Int}{tb:Nat ->Nat ->Int}{rs:List Row}{fs:Nat ->Row}{ix:Nat ->Nat}(h:BT n A p d tb rs fs ix)(ps:p<=s)(sn:s<n)(nz:tb s p≠0):
  ∃rs' fs' yS,BT n A (p+1) (tb s p) (nextT p s d tb) rs' fs' yS :=by
 obtain⟨hk,lq⟩:=h.lo s ps sn;have ts:(tb s p:Rat)=d*fs s p:=h.t s sn p;have qz:fs s p≠0:=fun z=>nz (yR (by rw[ts,z];grind))
 have d0:(d:Rat)≠0:=fun z=>h.nz (yR (by rw[z];rfl))
 let rs' :List Row:=dw A (ix s)::rs
 let fs' :Nat ->Row:=fun i=>if i=p then(fun j=>fs s j/fs s p) else(fun j=>fs (jt p s i) j - fs (jt p s i) p/fs s p*fs s j)
 let yS :Nat ->Nat:=fun i=>ix (jt p s i)
 have dd:dt rs' (cols (p+1))=(tb s p:Rat):=by
  show dt (dw A (ix s)::rs) (p::cols p)=_;rw[lq.dt p,<- h.de,ts,Rat.mul_comm]
 have w' :∀r∈rs',∃k,k<n/\r=dw A k:=fun r hr=>by
  rcases zT.mp hr with q | q
  ·exact⟨_,hk,q⟩
  ·exact h.w r q
 have wr' :∀r∈rs',∀j,kh (r j):=fun r hr j=>by obtain⟨k,_,rfl⟩:=w' r hr;exact zqs A k j
 have nz' :(tb s p:Rat)≠0:=fun z=>nz (yR (by rw[z];rfl))
 have up' :∀i,i<p+1 ->Up rs' (cols (p+1)) i (fs' i):=fun i hi=>by
  by_cases e:i=p
  ·subst e;show Up rs' (i::cols i) i (if i=i then _ else _);rw[if_pos rfl];exact Up.new lq qz
  ·have hip:i<p:=by omega
   have es:jt p s i=i:=by unfold jt;rw[if_neg e,if_neg (by omega)]
   show Up rs' (p::cols p) i (if i=p then _ else _);rw[if_neg e,es];exact Up.step lq qz (h.up i hip) (eG.mpr hip)
 have Gp :∀i,p+1<=i ->i<n ->yS i<n/\Low rs' (cols (p+1)) (dw A (yS i)) (fs' i):=fun i hi hn=>by
  have hs:p<=jt p s i/\jt p s i<n:=by
   unfold jt;rw[if_neg (by omega)]
   split<;>omega
  obtain⟨g1,g2⟩:=h.lo _ hs.1 hs.2;refine⟨g1,?_⟩;show Low rs' (p::cols p) _ (if i=p then _ else _);rw[if_neg (by omega)]
  exact Low.step lq qz g2
 refine⟨rs',fs',yS,w',dd.symm,nz,up',Gp,fun k hk' => ?_,fun i hi j=> ?_⟩
 ·rcases h.all k hk' with q | ⟨i,q1,q2,q3⟩
  ·exact .inl (zV _ q)
  ·by_cases e:i=s
   ·subst e;exact .inl (by rw[<- q3];exact zW)
   ·by_cases ep:i=p
    ·subst ep;refine .inr ⟨s,by omega,sn,?_⟩
     show ix (jt i s s)=k;unfold jt;rw[if_neg (by omega),if_pos rfl];exact q3
    ·refine .inr ⟨i,by omega,q2,?_⟩
     show ix (jt p s i)=k;unfold jt;rw[if_neg ep,if_neg e];exact q3
 ·by_cases e:i=p
  ·subst e;show((if i=i then tb s j else _:Int):Rat)=(tb s i:Rat)* (if i=i then(fun j=>fs s j/fs s i) else _) j;rw[if_pos rfl,if_pos rfl,h.t s sn j,ts];show(d:Rat)*fs s j=d*fs s i* (fs s j/fs s i)
   grind
  ·have hs:jt p s i<n:=by unfold jt;rw[if_neg e];split<;>omega
   have iz:kh (dt rs' (cols (p+1))*fs' i j):=z02 (n:=n) wr' (by rw[dd];exact nz') (by
    by_cases q:i<p
    ·exact .inl ⟨i,by omega,up' i (by omega)⟩
    ·obtain⟨g1,g2⟩:=Gp i (by omega) hi
     exact .inr ⟨_,zqs A _,g2⟩) j
   obtain⟨z,hz⟩:=iz;rw[dd] at hz;have hf:fs' i j=fs (jt p s i) j - fs (jt p s i) p/fs s p*fs s j:=by
    show(if i=p then _ else _:Row) j=_;rw[if_neg e]
   show((if i=p then _ else(tb s p*tb (jt p s i) j - tb (jt p s i) p*tb s j).fdiv d:Int):Rat)=(tb s p:Rat)*fs' i j;rw[if_neg e,hz]
   congr 1
   refine zzz h.nz (yR ?_);rw[Rat.intCast_sub,Rat.intCast_mul,Rat.intCast_mul,Rat.intCast_mul,h.t _ hs j,h.t _ hs p,h.t s sn j,<- hz,hf,ts]
   grind
def bx:Nat ->(Nat ->Rat) ->Rat
 | 0,_=>0
 | n+1,g=>bx n g+g n
theorem wA{g h:Nat ->Rat}:∀{n:Nat},(∀i,i<n ->g i=h i) ->bx n g=bx n h
 | 0,_=>rfl
 | n+1,e=>by unfold bx;rw[wA fun i hi=>e i (by omega),e n (by omega)]
theorem zq1{g:Nat ->Rat}{c:Nat}:∀{n:Nat},c<n ->(∀i,i<n ->i≠c ->g i=0) ->bx n g=g c
 | n+1,hc,h=>by
  unfold bx;by_cases e:c=n
  ·subst e;have:bx c g=0:=by
    rw[wA (h:=fun _=>0) fun i hi=>h i (by omega) (by omega)]
    clear h hc;induction c with
    | zero=>rfl
    | succ c ih=>unfold bx;rw[ih];grind
   rw[this];grind
  ·rw[zq1 (n:=n) (by omega) fun i hi n' =>h i (by omega) n',h n (by omega) fun z=>e z.symm];grind
theorem zss{rs:List Row}{fs:Nat ->Row}(a:Nat ->Rat):∀{p:Nat},(∀c,c<p ->fC rs (fs c)) ->fC rs fun j=>bx p fun c=>a c*fs c j
 | 0,_=>fC.zero rs
 | p+1,h=>((zss a fun c hc=>h c (by omega)).add ((h p (by omega)).mul (a p))).congr fun j=>rfl
theorem BT.span{n p:Nat}{A:Nat ->Nat ->Int}{d:Int}{tb:Nat ->Nat ->Int}{rs:List Row}{fs:Nat ->Row}{ix:Nat ->Nat}(h:BT n A p d tb rs fs ix){f:Row}(l:fC rs f)(j:Nat):f j=bx p fun c=>f c*fs c j:=by
 have hl:=l.add ((zss (rs:=rs) (fs:=fs) f (p:=p) fun c hc=>(h.up c hc).l).mul (-1));have key:=R9 (cs:=cols p) hl (fun c hc=> ?_) h.dz j
 ·grind
 ·have hc' :=eG.mp hc;show f c+ -1* (bx p fun x=>f x*fs x c)=0;rw[zq1 hc' fun i hi ni=>by rw[(h.up i hi).z c hc (Ne.symm ni)];grind,(h.up c hc').o]
  grind
theorem BT.eqn{n p:Nat}{A:Nat ->Nat ->Int}{d:Int}{tb:Nat ->Nat ->Int}{rs:List Row}{fs:Nat ->Row}{ix:Nat ->Nat}(h:BT n A p d tb rs fs ix){j:Nat}(z:∀i,p<=i ->i<n ->fs i j=0){k:Nat}(hk:k<n):
  dw A k j=bx p fun c=>dw A k c*fs c j:=by
 rcases h.all k hk with q | ⟨i,q1,q2,rfl⟩
 ·exact h.span (fC.mem q) j
 ·obtain⟨_,l⟩:=h.lo i q1 q2;obtain⟨g,lg,hf⟩:=l.g;have h1:=h.span lg j;have h2:∀c,c<p ->g c= - dw A (ix i) c:=fun c hc=>by
   have:=hf c;rw[l.z c (eG.mpr hc)] at this
   grind
  have h3:=hf j;rw[z i q1 q2] at h3;have h4:(bx p fun c=>g c*fs c j)= - bx p fun c=>dw A (ix i) c*fs c j:=by
   have neg:∀(m:Nat) (u:Nat ->Rat),(bx m fun c=> - u c)= - bx m u:=fun m u=>by
    induction m with
    | zero=>unfold bx;grind
    | succ m ih=>unfold bx;rw[ih];grind
   rw[<- neg];exact wA fun c hc=>by rw[h2 c hc];grind
  rw[h4] at h1
  grind
theorem BT.sol{n:Nat}{A:Nat ->Nat ->Int}{d:Int}{tb:Nat ->Nat ->Int}{rs:List Row}{fs:Nat ->Row}{ix:Nat ->Nat}(h:BT n A n d tb rs fs ix){k:Nat}(hk:k<n)(j:Nat):dw A k j=bx n fun c=>dw A k c*fs c j:=
 h.eqn (fun i h1 h2=>by omega) hk
theorem BT.diag{n p:Nat}{A:Nat ->Nat ->Int}{d:Int}{tb:Nat ->Nat ->Int}{rs:List Row}{fs:Nat ->Row}{ix:Nat ->Nat}(h:BT n A p d tb rs fs ix){i:Nat}(hi:i<p)(hn:i<n):tb i i=d:=by
 have:=h.t i hn i;rw[(h.up i hi).o] at this;exact yR (by rw[this];grind)
theorem BT.stuck{n p:Nat}{A:Nat ->Nat ->Int}{d:Int}{tb:Nat ->Nat ->Int}{rs:List Row}{fs:Nat ->Row}{ix:Nat ->Nat}(h:BT n A p d tb rs fs ix)(pn:p<n)(z:∀i,p<=i ->i<n ->tb i p=0):
  ∃x:Nat ->Rat,x p=1/\∀k,k<n ->(bx n fun c=>dw A k c*x c)=0:=by
 have d0:(d:Rat)≠0:=fun q=>h.nz (yR (by rw[q];rfl))
 have z' :∀i,p<=i ->i<n ->fs i p=0:=fun i h1 h2=>by
  have:=h.t i h2 p;rw[z i h1 h2] at this;rcases Rat.mul_eq_zero.mp (show(d:Rat)*fs i p=0 by rw[<- this];rfl) with q | q
  ·exact absurd q d0
  ·exact q
 refine⟨fun c=>if c<p then - fs c p else if c=p then 1 else 0,by simp,fun k hk=> ?_⟩
 have e:=h.eqn z' hk;have cut:∀m,p<m ->m<=n ->(bx m fun c=>dw A k c* (if c<p then - fs c p else if c=p then 1 else 0))=(bx p fun c=>dw A k c* (- fs c p))+dw A k p:=fun m=>by
  induction m with
  | zero=>intro hm;omega
  | succ m ih=>
   intro hm hn;show(bx m fun c=>dw A k c* (if c<p then - fs c p else if c=p then 1 else 0))+dw A k m* (if m<p then - fs m p else if m=p then 1 else 0)=_;by_cases q:m=p
   ·subst q;rw[if_neg (by omega),if_pos rfl]
    rw[wA (h:=fun c=>dw A k c* (- fs c m)) fun c hc=>by rw[if_pos hc]]
    grind
   ·rw[ih (by omega) (by omega),if_neg (by omega),if_neg q];grind
 rw[cut n pn (Nat.le_refl _),e];have neg:(bx p fun c=>dw A k c* (- fs c p))= - bx p fun c=>dw A k c*fs c p:=by
  have:∀(m:Nat) (u:Nat ->Rat),(bx m fun c=> - u c)= - bx m u:=fun m u=>by
   induction m with
   | zero=>unfold bx;grind
   | succ m ih=>unfold bx;rw[ih];grind
  rw[<- this];exact wA fun c _=>by grind
 rw[neg];grind
def ao{α:Type}:List α ->(α ->Rat) ->Rat
 | [],_=>0
 | a::l,f=>f a+ao l f
section
variable{α β:Type}
theorem dX{f g:α ->Rat}:∀{l:List α},(∀a∈l,f a=g a) ->ao l f=ao l g
 | [],_=>rfl
 | a::l,h=>by
  unfold ao;rw[h a List.mem_cons_self,dX fun b hb=>h b (List.mem_cons_of_mem _ hb)]
theorem wB{f g:α ->Rat}:∀{l:List α},ao l (fun a=>f a+g a)=ao l f+ao l g
 | []=>by unfold ao;grind
 | a::l=>by unfold ao;rw[wB (l:=l)];grind
theorem uI{f g:α ->Rat}:∀{l:List α},ao l (fun a=>f a - g a)=ao l f - ao l g
 | []=>by unfold ao;grind
 | a::l=>by unfold ao;rw[uI (l:=l)];grind
theorem tD(k:Rat){f:α ->Rat}:∀{l:List α},ao l (fun a=>k*f a)=k*ao l f
 | []=>by unfold ao;grind
 | a::l=>by unfold ao;rw[tD k (l:=l)];grind
theorem wC{f:α ->Rat}:∀{l:List α},(∀a∈l,f a=0) ->ao l f=0
 | [],_=>rfl
 | a::l,h=>by
  unfold ao;rw[h a List.mem_cons_self,wC fun b hb=>h b (List.mem_cons_of_mem _ hb)];grind
theorem tE(k:Rat):∀{l:List α},ao l (fun _=>k)=(l.length:Rat)*k
 | []=>by
  show(0:Rat)=((0:Nat):Rat)*k;have:((0:Nat):Rat)=0:=rfl;rw[this];grind
 | a::l=>by
  show k+ao l (fun _=>k)=((l.length+1:Nat):Rat)*k;rw[tE k];have:((l.length+1:Nat):Rat)=(l.length:Rat)+1:=by exact_mod_cast rfl
  rw[this];grind
theorem Gq{f:α ->β ->Rat}{m:List β}:∀{l:List α},ao l (fun a=>ao m (f a))=ao m fun b=>ao l fun a=>f a b
 | []=>by
  show(0:Rat)=_;exact(wC fun _ _=>rfl).symm
 | a::l=>by
  show ao m (f a)+ao l (fun a=>ao m (f a))=ao m fun b=>f a b+ao l fun a=>f a b;rw[Gq (l:=l),<- wB]
theorem zim{f:α ->Rat}:∀{l m:List α},ao (l++m) f=ao l f+ao m f
 | [],m=>by show ao m f=0+ao m f;grind
 | a::l,m=>by show f a+ao (l++m) f=(f a+ao l f)+ao m f;rw[zim];grind
theorem J4{f:α ->Rat}{l m:List α}(h:l.Perm m):ao l f=ao m f:=by
 induction h with
 | nil=>rfl
 | cons x _ ih=>show f x+_=f x+_;rw[ih]
 | swap x y l=>show f y+ (f x+ao l f)=f x+ (f y+ao l f);grind
 | trans _ _ h1 h2=>rw[h1,h2]
theorem tG{f:α ->Rat}{p:α ->Bool}:∀{l:List α},ao (l.filter p) f=ao l fun a=>if p a=true then f a else 0
 | []=>rfl
 | a::l=>by
  rw[List.filter_cons];show _=(if p a=true then f a else 0)+ao l fun a=>if p a=true then f a else 0;rw[<- tG (l:=l)];by_cases h:p a=true
  ·rw[if_pos h,if_pos h];rfl
  ·rw[if_neg h,if_neg h];grind
theorem qI{f:β ->Rat}{g:α ->β}:∀{l:List α},ao (l.map g) f=ao l fun a=>f (g a)
 | []=>rfl
 | a::l=>by show f (g a)+_=f (g a)+_;rw[qI]
theorem Gs{f:α ->Rat}:∀{l:List α},(∀a∈l,0<=f a) ->0<=ao l f
 | [],_=>by unfold ao;exact Rat.le_refl
 | a::l,h=>by
  have h1:=h a zW;have h2:=Gs fun b hb=>h b (zV a hb);show 0<=f a+ao l f
  grind
theorem Br{f:α ->Rat}:∀{l:List α},(∀a∈l,0<=f a) ->ao l f=0 ->∀a∈l,f a=0
 | a::l,h,e=>by
  have h1:=h a zW;have h2:=Gs fun b hb=>h b (zV a hb);have e' :f a+ao l f=0:=e;have e1:f a=0:=by grind
  have e2:ao l f=0:=by grind
  intro b hb;rcases zT.mp hb with q | q
  ·rw[q];exact e1
  ·exact Br (fun b hb=>h b (zV a hb)) e2 b q
 | [],_,_=>fun a h=>by cases h
end
section
variable{α:Type}[DecidableEq α]
theorem Bs{f:α ->Rat}{s hs:List α}(ns:s.Nodup)(nh:hs.Nodup)(sub:∀x∈s,x∈hs):ao hs (fun h=>if h∈s then f h else 0)=ao s f:=by
 have p:(hs.filter fun h=>decide (h∈s)).Perm s:=by
  rw[List.perm_ext_iff_of_nodup (nh.filter _) ns];intro a;rw[List.mem_filter];exact⟨fun h=>of_decide_eq_true h.2,fun h=>⟨sub a h,decide_eq_true h⟩⟩
 rw[<- J4 p,tG];exact dX fun a _=>by by_cases h:a∈s<;>simp [h]
def aX(s:List α)(x:α ->Rat):Rat:=ao s x/ (s.length:Rat)
theorem zsd{s:List α}(h:s≠ [])(x:α ->Rat):(s.length:Rat)*aX s x=ao s x:=by
 have z:(s.length:Rat)≠0:=by
  have:=List.length_pos_iff.mpr h;intro e;have:s.length=0:=by exact_mod_cast e
  omega
 unfold aX;rw[Rat.div_def,Rat.mul_comm,Rat.mul_assoc,Rat.inv_mul_cancel _ z];grind
theorem Sg(s:List α)(x:α ->Rat):ao s (fun h=>x h - aX s x)=0:=by
 rw[uI,tE];by_cases h:s= []
 ·subst h;show(0:Rat) - ((0:Nat):Rat)*_=0;have:((0:Nat):Rat)=0:=rfl;rw[this];grind
 ·rw[zsd h];grind
def iH(S:List (List α))(x:α ->Rat)(h:α):Rat:=ao S fun s=>if h∈s then x h - aX s x else 0
theorem zpz{S:List (List α)}{hs:List α}(ns:∀s∈S,s.Nodup)(nh:hs.Nodup)(sub:∀s∈S,∀x∈s,x∈hs)(c x:α ->Rat):ao hs (fun h=>c h*iH S x h)=ao S fun s=>ao s fun h=>c h* (x h - aX s x):=by
 unfold iH;have e:ao hs (fun h=>c h*ao S fun s=>if h∈s then x h - aX s x else 0)=ao hs fun h=>ao S fun s=>if h∈s then c h* (x h - aX s x) else 0:=
  dX fun h _=>by
   rw[<- tD];exact dX fun s _=>by split<;>grind
 rw[e,Gq];exact dX fun s hS=>Bs (ns s hS) nh (sub s hS)
theorem z17{S:List (List α)}{hs:List α}(ns:∀s∈S,s.Nodup)(nh:hs.Nodup)(sub:∀s∈S,∀x∈s,x∈hs)(x:α ->Rat):ao hs (iH S x)=0:=by
 have e:=zpz ns nh sub (fun _=>1) x;have e1:ao hs (fun h=>1*iH S x h)=ao hs (iH S x):=dX fun h _=>by grind
 rw[<- e1,e];exact wC fun s _=>by
  have e2:ao s (fun h=>1* (x h - aX s x))=ao s (fun h=>x h - aX s x):=dX fun h _=>by grind
  rw[e2,Sg]
theorem J5(r:Rat):0<=r*r:=by
 rcases Rat.le_total (a:=0) (b:=r) with h | h
 ·exact Rat.mul_nonneg h h
 ·have h' :0<= -r:=by grind
  have:=Rat.mul_nonneg h' h'
  grind
theorem zuy{r:Rat}(h:r*r=0):r=0:=by
 rcases Rat.mul_eq_zero.mp h with h | h<;>exact h
theorem zwu{S:List (List α)}{hs:List α}(ns:∀s∈S,s.Nodup)(nh:hs.Nodup)(sub:∀s∈S,∀x∈s,x∈hs){x:α ->Rat}(z:∀h∈hs,iH S x h=0):∀s∈S,∀h∈s,x h=aX s x:=by
 have e:=zpz ns nh sub x x;rw[wC fun h hh=>by rw[z h hh];grind] at e
 have e2:∀s,ao s (fun h=>x h* (x h - aX s x))=ao s fun h=>(x h - aX s x)* (x h - aX s x):=by
  intro s;have a1:=Sg s x;have a2:ao s (fun h=>(x h - aX s x)* (x h - aX s x))=ao s fun h=>x h* (x h - aX s x) - aX s x* (x h - aX s x):=dX fun h _=>by grind
  rw[a2,uI,tD,a1];grind
 have e3:ao S (fun s=>ao s fun h=>(x h - aX s x)* (x h - aX s x))=0:=by
  rw[e];exact dX fun s _=>(e2 s).symm
 intro s hs h hh;have h1:=Br (fun s _=>Gs fun h _=>J5 _) e3 s hs;have h2:=Br (fun h _=>J5 _) h1 h hh;have:=zuy h2
 grind
def dI(S:List (List α))(h:α):Rat:=ao S fun s=>if h∈s then 1 else 0
theorem zi5(S:List (List α))(h:α):0<=dI S h:=Gs fun s _=>by split<;>decide
theorem zz8{S:List (List α)}{h:α}(i:∃s∈S,h∈s):0<dI S h:=by
 obtain⟨s,hs,hh⟩:=i;refine Rat.lt_of_le_of_ne (zi5 S h) fun z=> ?_;have:=Br (l:=S) (f:=fun s=>if h∈s then(1:Rat) else 0) (fun s _=>by split<;>decide) z.symm s hs
 rw[if_pos hh] at this;exact absurd this (by decide)
theorem zui{S:List (List α)}{h0:α}{hs:List α}(ns:∀s∈S,s.Nodup)(nh:(h0::hs).Nodup)(sub:∀s∈S,∀x∈s,x∈h0::hs)(on:∀h∈h0::hs,∃s∈S,h∈s)
  (min:∀C:α ->Prop,(∀s∈S,(∃x∈s,C x) ->∀x∈s,C x) ->(∃x∈h0::hs,C x) ->∀x∈h0::hs,C x)
  {x:α ->Rat} (z:∀h∈hs,iH S x h=0) (w:ao (h0::hs) (fun h=>dI S h*x h)=0):∀h∈h0::hs,x h=0:=by
 have z' :∀h∈h0::hs,iH S x h=0:=by
  have e:=z17 ns nh sub x;have e' :iH S x h0+ao hs (iH S x)=0:=e;rw[wC z] at e';intro h hh;rcases zT.mp hh with q | q
  ·rw[q];grind
  ·exact z h q
 have ev:=zwu ns nh sub z';have same:∀h∈h0::hs,x h=x h0:=min (fun h=>x h=x h0) (fun s hS hx b hb=>by
  obtain⟨a,ha,ea⟩:=hx;show x b=x h0;have ea' :x a=x h0:=ea;rw[ev s hS b hb,<- ev s hS a ha,ea']) ⟨h0,zW,rfl⟩
 have e1:ao (h0::hs) (fun h=>dI S h*x h)=x h0*ao (h0::hs) (dI S):=by
  rw[<- tD];exact dX fun h hh=>by rw[same h hh];grind
 rw[e1] at w;have pos:ao (h0::hs) (dI S)≠0:=fun zz=>by
  have:=Br (fun h _=>zi5 S h) zz h0 zW;have p:=zz8 (on h0 zW);rw[this] at p;exact absurd p (by decide)
 rcases Rat.mul_eq_zero.mp w with q | q
 ·intro h hh;rw[same h hh,q]
 ·exact absurd q pos
def bJ(S:List (List α))(h o:α):Rat:=(if h=o then dI S h else 0) - ao S fun s=>if h∈s/\o∈s then 1/ (s.length:Rat) else 0
theorem zvh{S:List (List α)}{hs:List α}(ns:∀s∈S,s.Nodup)(nh:hs.Nodup)(sub:∀s∈S,∀x∈s,x∈hs)(x:α ->Rat){h:α}(hh:h∈hs):ao hs (fun o=>bJ S h o*x o)=iH S x h:=by
 have e1:ao hs (fun o=>bJ S h o*x o)=ao hs (fun o=>if o∈ [h] then dI S h*x o else 0) - ao hs fun o=>ao S fun s=>if h∈s/\o∈s then x o/ (s.length:Rat) else 0:=by
  rw[<- uI];refine dX fun o _=> ?_;unfold bJ;have e2:(ao S fun s=>if h∈s/\o∈s then x o/ (s.length:Rat) else 0)=x o*ao S fun s=>if h∈s/\o∈s then 1/ (s.length:Rat) else 0:=by
   rw[<- tD];exact dX fun s _=>by split<;>first | (simp only [Rat.div_def];grind) | grind
  rw[e2];by_cases q:h=o
  ·subst q;rw[if_pos rfl,if_pos (List.mem_singleton.mpr rfl)];grind
  ·rw[if_neg q,if_neg fun z=>q (List.mem_singleton.mp z).symm];grind
 rw[e1,Bs (by simp) nh fun y hy=>by rw[List.mem_singleton.mp hy];exact hh,Gq]
 have e3:ao [h] (fun o=>dI S h*x o)=ao S fun s=>if h∈s then x h else 0:=by
  show dI S h*x h+0=_;unfold dI;have:(ao S fun s=>if h∈s then x h else 0)=x h*ao S fun s=>if h∈s then 1 else 0:=by
   rw[<- tD];exact dX fun s _=>by split<;>grind
  rw[this];grind
 rw[e3,<- uI];refine dX fun s hS=> ?_;by_cases q:h∈s
 ·rw[if_pos q,if_pos q]
  congr 1
  have e4:ao hs (fun o=>if h∈s/\o∈s then x o/ (s.length:Rat) else 0)=ao hs fun o=>if o∈s then x o/ (s.length:Rat) else 0:=dX fun o _=>by simp [q]
  rw[e4,Bs (ns s hS) nh (sub s hS)];unfold aX;have e5:ao s (fun o=>x o/ (s.length:Rat))=(s.length:Rat)⁻¹*ao s x:=by
   rw[<- tD];exact dX fun o _=>by rw[Rat.div_def];grind
  rw[e5,Rat.div_def];grind
 ·rw[if_neg q,if_neg q,wC fun o _=>by simp [q]];grind
variable{σ:Type}
def fD(k:σ ->List α)(y:σ ->α ->Rat)(S:List σ)(h:α):Rat:=ao S fun s=>if h∈k s then y s h - aX (k s) (y s) else 0
theorem zxl{k:σ ->List α}{S:List σ}{hs:List α}(ns:∀s∈S,(k s).Nodup)(nh:hs.Nodup)(sub:∀s∈S,∀x∈k s,x∈hs)(y:σ ->α ->Rat):ao hs (fD k y S)=0:=by
 show ao hs (fun h=>ao S fun s=>if h∈k s then y s h - aX (k s) (y s) else 0)=0;rw[Gq];refine wC fun s hS=> ?_;rw[Bs (f:=fun h=>y s h - aX (k s) (y s)) (ns s hS) nh (sub s hS)];exact Sg _ _
theorem zvu(s:List α)(x y:α ->Rat):aX s (fun o=>x o - y o)=aX s x - aX s y:=by
 unfold aX;rw[uI,Rat.div_def,Rat.div_def,Rat.div_def];grind
theorem zwo{k:σ ->List α}(y:σ ->α ->Rat)(x:α ->Rat)(S:List σ)(h:α):fD k (fun s o=>y s o - x o) S h=fD k y S h - iH (S.map k) x h:=by
 unfold fD iH;rw[qI,<- uI];exact dX fun s _=>by
  rw[zvu];split<;>grind
theorem zwv{k:σ ->List α}{S:List σ}{h0:α}{hs:List α}(ns:∀s∈S,(k s).Nodup)(nh:(h0::hs).Nodup)(sub:∀s∈S,∀x∈k s,x∈h0::hs)(y:σ ->α ->Rat)(x:α ->Rat)
  (e:∀h∈hs,iH (S.map k) x h=fD k y S h):∀h∈h0::hs,fD k (fun s o=>y s o - x o) S h=0:=by
 have e' :∀h∈hs,fD k (fun s o=>y s o - x o) S h=0:=fun h hh=>by rw[zwo,e h hh];grind
 have q:=zxl ns nh sub fun s o=>y s o - x o;have q' :fD k (fun s o=>y s o - x o) S h0+ao hs (fD k (fun s o=>y s o - x o) S)=0:=q;rw[wC e'] at q';intro h hh;rcases zT.mp hh with r | r
 ·rw[r];grind
 ·exact e' h r
theorem zmw{β:Type}[Inhabited β](f:β ->Rat):∀(l:List β),bx l.length (fun j=>f (l.getD j default))=ao l f:=by
 intro l;have key:∀(m:List β) n,n<=m.length ->bx n (fun j=>f (m.getD j default))=ao (m.take n) f:=by
  intro m n;induction n with
  | zero=>intro _;rfl
  | succ n ih=>
   intro h;have e:m.take (n+1)=m.take n++ [m[n]]:=by rw[List.take_succ,List.getElem?_eq_getElem h];rfl
   show bx n (fun j=>f (m.getD j default))+f (m.getD n default)=_;rw[ih (by omega),e,zim]
   have:m.getD n default=m[n]:=by rw[List.getD_eq_getElem?_getD,List.getElem?_eq_getElem h];rfl
   rw[this];show _+f m[n]=_+ (f m[n]+0)
   grind
 have:=key l l.length (zM _)
 rwa [List.take_length] at this
end
def ZB(B:Nat)(x:Rat):Prop:=∃z:Int,x=(z:Rat)/\z.natAbs<=B
theorem ZB.sub{A B:Nat}{x y:Rat}(h1:ZB A x)(h2:ZB B y):ZB (A+B) (x - y):=by
 obtain⟨a,rfl,ha⟩:=h1;obtain⟨b,rfl,hb⟩:=h2;exact⟨a - b,by simp [Rat.intCast_sub],by omega⟩
theorem ZB.mul{A B:Nat}{x y:Rat}(h1:ZB A x)(h2:ZB B y):ZB (A*B) (x*y):=by
 obtain⟨a,rfl,ha⟩:=h1;obtain⟨b,rfl,hb⟩:=h2;exact⟨a*b,by simp [Rat.intCast_mul],by rw[Int.natAbs_mul];exact Nat.mul_le_mul ha hb⟩
theorem ZB.mono{A B:Nat}{x:Rat}(h:ZB A x)(l:A<=B):ZB B x:=by
 obtain⟨a,rfl,ha⟩:=h;exact⟨a,rfl,zN ha l⟩
theorem ZB.zero(B:Nat):ZB B 0:=⟨0,rfl,Nat.zero_le _⟩
theorem zy4{B:Nat}{g:Nat ->List Nat ->Rat}:∀{cs:List Nat},(∀c ds,ds.length+1=cs.length ->ZB B (g c ds)) ->ZB (cs.length*B) (aR g cs)
 | [],_=>by unfold aR;exact ZB.zero _
 | c::cs,h=>by
  have h1:=(h c cs rfl).sub (zy4 (cs:=cs) (g:=fun d ds=>g d (c::ds)) fun d ds e=>h d (c::ds) (by simp;omega))
  refine ZB.mono h1 ?_;rw[List.length_cons,Nat.add_mul];omega
theorem J6{M N:Nat}:∀{rs:List Row} {cs:List Nat},(∀r∈rs,∀j,ZB M (r j)) ->cs.length<=N ->ZB ((N*M)^rs.length) (dt rs cs)
 | [],[],_,_=>⟨1,by unfold dt;rfl,by simp⟩
 | [],_::_,_,_=>by unfold dt;exact ZB.zero _
 | r::rs,cs,h,l=>by
  have h1:ZB (cs.length* (M* (N*M)^rs.length)) (aR (fun c ds=>r c*dt rs ds) cs):=zy4 fun c ds e=>(h r zW c).mul (J6 (fun s hs=>h s (zV _ hs)) (by omega))
  refine ZB.mono h1 ?_;rw[List.length_cons,Nat.pow_succ,Nat.mul_comm ((N*M)^rs.length),Nat.mul_assoc];exact Nat.mul_le_mul_right _ l
theorem zfh{g:Nat ->List Nat ->Rat}:∀{cs:List Nat},(∀c ds,ds.length+1=cs.length ->g c ds=0) ->aR g cs=0
 | [],_=>rfl
 | c::cs,h=>by
  unfold aR;rw[h c cs rfl,zfh (cs:=cs) fun d ds e=>h d (c::ds) (by simp;omega)]
  grind
theorem zyw:∀{rs:List Row} {cs:List Nat},rs.length≠cs.length ->dt rs cs=0
 | [],[],h=>absurd rfl h
 | [],_::_,_=>rfl
 | r::rs,cs,h=>zfh fun c ds e=>by
   show r c*dt rs ds=0;rw[zyw (by simp at h;omega)];grind
theorem Gu:∀p,(cols p).length=p
 | 0=>rfl
 | p+1=>by unfold cols;rw[List.length_cons,Gu p]
theorem BT.len{n p:Nat}{A:Nat ->Nat ->Int}{d:Int}{tb:Nat ->Nat ->Int}{rs:List Row}{fs:Nat ->Row}{ix:Nat ->Nat}(h:BT n A p d tb rs fs ix):rs.length=p:=by
 have z:=h.dz;rcases Nat.decEq rs.length (cols p).length with q | q
 ·exact absurd (zyw q) z
 ·rw[q,Gu]
theorem z32{rs:List Row}{cs:List Nat}{a f g:Row}(hf:∀j,f j=a j+g j)(hg:fC rs g)(z:∀c∈cs,f c=0)(j:Nat):dt rs cs*f j=dt (a::rs) (j::cs):=by
 obtain⟨ks,_,e⟩:=hg;have h1:dt (f::rs) (j::cs)=f j*dt rs cs:=J2 z;have h2:dt (f::rs) (j::cs)=dt (a::rs) (j::cs):=by
  have:=Gj (rs:=rs) (cs:=j::cs) (ks:=ks) (ss:=rs) (r:=a) fun s hs=>hs;rw[<- this]
  congr 2
  funext i
  rw[hf,e]
 rw[Rat.mul_comm,<- h1,h2]
theorem z42{rs:List Row}{pre post:List Nat}{c:Nat}{f:Row}(h:fC rs f)(one:f c=1)(z:∀x∈pre++post,f x=0)(d:dt rs (pre++c::post)≠0)(j:Nat):dt rs (pre++c::post)*f j=dt rs (pre++j::post):=by
 have hl:=R7 rs _ pre post rfl;have key:=R9 (cs:=pre++c::post) (hl.add ((h.mul (dt rs (pre++c::post))).mul (-1))) (fun x hx=> ?_) d j
 ·grind
 ·by_cases hc:x=c
  ·subst hc;rw[one];grind
  ·have hx' :x∈pre++post:=by
    rcases zR.mp hx with q | q
    ·exact zO _ q
    ·rcases zT.mp q with q | q
     ·exact absurd q hc
     ·exact zP _ q
   rw[z x hx'];have:dt rs (pre++x::post)=0:=by
    rcases zR.mp hx' with q | q
    ·obtain⟨p1,p2,rfl⟩:=List.append_of_mem q;have:=Gn rs (pre:=p1) (post:=p2++x::post) (c:=x) (by simp)
     rw[List.append_assoc];exact this
    ·exact Gn rs q
   rw[this];grind
theorem Sh{z w:Int}{B:Nat}(e:(z:Rat)=(w:Rat))(h:w.natAbs<=B):z.natAbs<=B:=by
 rw[yR e];exact h
theorem BT.small{n p M N:Nat}{A:Nat ->Nat ->Int}{d:Int}{tb:Nat ->Nat ->Int}{rs:List Row}{fs:Nat ->Row}{ix:Nat ->Nat}(h:BT n A p d tb rs fs ix)(hA:∀k,k<n ->∀j,(A k j).natAbs<=M)(hp:p+1<=N)(h1:1<=N*M){i:Nat}(hi:i<n)(j:Nat):(tb i j).natAbs<=(N*M)^ (p+1):=by
 have wr:∀r∈rs,∀j,ZB M (r j):=fun r hr j=>by
  obtain⟨k,hk,rfl⟩:=h.w r hr;exact⟨A k j,rfl,hA k hk j⟩
 have hl:=h.len;have pw:(N*M)^p<=(N*M)^ (p+1):=Nat.pow_le_pow_right h1 (by omega)
 have ht:=h.t i hi j;rw[h.de] at ht;by_cases q:i<p
 ·have u:=h.up i q;obtain⟨pre,post,e⟩:=List.append_of_mem (eG.mpr q);have nd:=Sd p;have dz:=h.dz;have ll:=Gu p;rw[e] at nd dz ht ll;have key:=z42 (rs:=rs) (pre:=pre) (post:=post) (c:=i) (f:=fs i) u.l u.o (fun x hx=> ?_) dz j
  ·rw[key] at ht;obtain⟨z,ez,hz⟩:=J6 (cs:=pre++j::post) wr (N:=N) (by simp at ll⊢;omega)
   rw[hl] at hz;rw[ez] at ht;exact zN (Sh ht hz) pw
  ·refine u.z x ?_ fun z=> ?_
   ·rw[e];rcases zR.mp hx with q | q
    ·exact zO _ q
    ·exact zP _ (zV _ q)
   ·subst z;rw[List.nodup_append] at nd;rcases zR.mp hx with q | q
    ·exact nd.2.2 x q x zW rfl
    ·exact(List.nodup_cons.mp nd.2.1).1 q
 ·obtain⟨hx,lo⟩:=h.lo i (by omega) hi
  obtain⟨g,lg,hf⟩:=lo.g;rw[z32 hf lg lo.z j] at ht;obtain⟨z,ez,hz⟩:=J6 (rs:=dw A (ix i)::rs) (cs:=j::cols p) (M:=M) (N:=N) (fun r hr=>by
   rcases zT.mp hr with q | q
   ·subst q;exact fun j=>⟨A (ix i) j,rfl,hA _ hx j⟩
   ·exact wr r q) (by rw[List.length_cons,Gu];omega)
  rw[List.length_cons,hl] at hz;rw[ez] at ht;exact Sh ht hz
theorem BT.lead{n p M N:Nat}{A:Nat ->Nat ->Int}{d:Int}{tb:Nat ->Nat ->Int}{rs:List Row}{fs:Nat ->Row}{ix:Nat ->Nat}(h:BT n A p d tb rs fs ix)(hA:∀k,k<n ->∀j,(A k j).natAbs<=M)(hp:p<=N):d.natAbs<=(N*M)^p:=by
 have wr:∀r∈rs,∀j,ZB M (r j):=fun r hr j=>by
  obtain⟨k,hk,rfl⟩:=h.w r hr;exact⟨A k j,rfl,hA k hk j⟩
 obtain⟨z,ez,hz⟩:=J6 (cs:=cols p) wr (N:=N) (by rw[Gu];exact hp)
 rw[h.len] at hz;exact Sh (h.de.trans ez) hz
section
variable{α β:Type}[DecidableEq α][DecidableEq β]
def bH(rows:List (α×β×Int))(w:α):List (α×β×Int):=rows.filter fun r=>decide (r.1=w)
def fM(rows:List (α×β×Int))(h:β):List (α×β×Int):=rows.filter fun r=>decide (r.2.1=h)
def ofM(rows:List (α×β×Int))(m:List β):List (α×β×Int):=rows.filter fun r=>decide (r.2.1∈m)
def Uq(rows:List (α×β×Int)):Prop:=rows.Pairwise fun a b=>¬(a.1=b.1/\a.2.1=b.2.1)
def kW(rows:List (α×β×Int))(w:α):List β:=(bH rows w).map fun r=>r.2.1
def yW(rows:List (α×β×Int))(w:α)(h:β):Rat:=match rows.find? (fun r=>decide (r.1=w/\r.2.1=h)) with | some r=>(r.2.2:Rat) | none=>0
theorem aP{rows:List (α×β×Int)}{w:α}{r:α×β×Int}:r∈bH rows w↔r∈rows/\r.1=w:=by
 unfold bH;rw[List.mem_filter,decide_eq_true_iff]
theorem cW{rows:List (α×β×Int)}{h:β}{r:α×β×Int}:r∈fM rows h↔r∈rows/\r.2.1=h:=by
 unfold fM;rw[List.mem_filter,decide_eq_true_iff]
theorem cA{rows:List (α×β×Int)}{m:List β}{r:α×β×Int}:r∈ofM rows m↔r∈rows/\r.2.1∈m:=by
 unfold ofM;rw[List.mem_filter,decide_eq_true_iff]
theorem Uq.M{rows:List (α×β×Int)}(u:Uq rows)(m:List β):Uq (ofM rows m):=u.filter _
theorem J7{γ δ:Type}{f:γ ->δ}{R:γ ->γ ->Prop}:∀{l:List γ},l.Pairwise R ->(∀a∈l,∀b∈l,R a b ->f a≠f b) ->(l.map f).Nodup
 | [],_,_=>List.nodup_nil
 | a::l,h,k=>by
  rw[List.pairwise_cons] at h;rw[List.map_cons,List.nodup_cons];refine⟨fun z=> ?_,J7 h.2 fun a ha b hb=>k a (zV _ ha) b (zV _ hb)⟩;obtain⟨b,hb,e⟩:=zE.mp z;exact k a zW b (zV _ hb) (h.1 b hb) e.symm
theorem Sv{rows:List (α×β×Int)}(u:Uq rows)(w:α):(kW rows w).Nodup:=by
 refine J7 (u.filter _) fun a ha b hb n e=>n ⟨?_,e⟩;rw[(aP.mp ha).2,(aP.mp hb).2]
theorem zx4{rows:List (α×β×Int)}(u:Uq rows)(h:β):((fM rows h).map fun r=>r.1).Nodup:=by
 refine J7 (u.filter _) fun a ha b hb n e=>n ⟨e,?_⟩;rw[(cW.mp ha).2,(cW.mp hb).2]
theorem eN{rows:List (α×β×Int)}{w:α}{h:β}:h∈kW rows w↔∃r∈rows,r.1=w/\r.2.1=h:=by
 unfold kW;rw[List.mem_map];exact⟨fun⟨r,h1,h2⟩=>⟨r,(aP.mp h1).1,(aP.mp h1).2,h2⟩,fun⟨r,h1,h2,h3⟩=>⟨r,aP.mpr ⟨h1,h2⟩,h3⟩⟩
theorem Sw:∀{rows:List (α×β×Int)},Uq rows ->∀{a b:α×β×Int},a∈rows ->b∈rows ->a.1=b.1 ->a.2.1=b.2.1 ->a=b
 | r::rows,u,a,b,ha,hb,e1,e2=>by
  unfold Uq at u;rw[List.pairwise_cons] at u;rcases zT.mp ha with q | q
  ·rcases zT.mp hb with q' | q'
   ·rw[q,q']
   ·subst q;exact absurd ⟨e1,e2⟩ (u.1 b q')
  ·rcases zT.mp hb with q' | q'
   ·subst q';exact absurd ⟨e1.symm,e2.symm⟩ (u.1 a q)
   ·exact Sw u.2 q q' e1 e2
theorem J8{rows:List (α×β×Int)}(u:Uq rows){r:α×β×Int}(hr:r∈rows):yW rows r.1 r.2.1=(r.2.2:Rat):=by
 unfold yW;cases e:rows.find? (fun s=>decide (s.1=r.1/\s.2.1=r.2.1)) with
 | none=>
  have:=List.find?_eq_none.mp e r hr;simp at this
 | some s=>
  have h1:=List.mem_of_find?_eq_some e;have h2:s.1=r.1/\s.2.1=r.2.1:=by
   have:=List.find?_some e
   simpa using this
  rw[Sw u h1 hr h2.1 h2.2]
theorem zzc{rows:List (α×β×Int)}{w:α}(f:β ->Rat):ao (kW rows w) f=ao (bH rows w) fun r=>f r.2.1:=qI
theorem Bt(rows:List (α×β×Int))(w:α):(kW rows w).length=(bH rows w).length:=by unfold kW;rw[List.length_map]
theorem zy6{rows:List (α×β×Int)}{ws:List α}(u:Uq rows)(nw:ws.Nodup)(cw:∀r∈rows,r.1∈ws)(h:β)(F:α ->Rat):ao ws (fun w=>if h∈kW rows w then F w else 0)=ao (fM rows h) fun r=>F r.1:=by
 have e:ao ws (fun w=>if h∈kW rows w then F w else 0)=ao ws fun w=>if w∈ (fM rows h).map (fun r=>r.1) then F w else 0:=by
  refine dX fun w _=> ?_;have:h∈kW rows w↔w∈ (fM rows h).map (fun r=>r.1):=by
   rw[eN,List.mem_map];exact⟨fun⟨r,h1,h2,h3⟩=>⟨r,cW.mpr ⟨h1,h3⟩,h2⟩,fun⟨r,h1,h2⟩=>⟨r,(cW.mp h1).1,h2,(cW.mp h1).2⟩⟩
  by_cases q:h∈kW rows w
  ·rw[if_pos q,if_pos (this.mp q)]
  ·rw[if_neg q,if_neg fun z=>q (this.mpr z)]
 rw[e,Bs (zx4 u h) nw fun w hw=>by
  obtain⟨r,h1,h2⟩:=zE.mp hw;rw[<- h2];exact cw r (cW.mp h1).1,qI]
def jk(rows:List (α×β×Int))(x:β ->Rat)(h:β):Prop:=
 ao (fM rows h) (fun r=>((r.2.2:Rat) - x r.2.1) - ao (bH rows r.1) (fun s=>(s.2.2:Rat) - x s.2.1)/ ((bH rows r.1).length:Rat))=0
def pZ(rows:List (α×β×Int))(x:β ->Rat)(m:List β):Prop:=ao (ofM rows m) (fun r=>x r.2.1)=0
theorem Gv{rows:List (α×β×Int)}(u:Uq rows)(x:β ->Rat)(w:α):aX (kW rows w) (fun o=>yW rows w o - x o)=ao (bH rows w) (fun s=>(s.2.2:Rat) - x s.2.1)/ ((bH rows w).length:Rat):=by
 unfold aX;rw[Bt,zzc]
 congr 1
 refine dX fun r hr=> ?_;have:=J8 u (aP.mp hr).1;rw[(aP.mp hr).2] at this;rw[this]
theorem zxa{rows:List (α×β×Int)}{ws:List α}(u:Uq rows)(nw:ws.Nodup)(cw:∀r∈rows,r.1∈ws)(x:β ->Rat)(h:β)(e:fD (kW rows) (fun w o=>yW rows w o - x o) ws h=0):jk rows x h:=by
 unfold fD at e;rw[zy6 u nw cw h] at e;unfold jk;rw[<- e];refine dX fun r hr=> ?_;have hr' :=cW.mp hr;have y:=J8 u hr'.1;rw[hr'.2] at y;rw[Gv u,hr'.2];show _=yW rows r.1 h - x h - _;rw[y]
theorem zwy{rows:List (α×β×Int)}{ws:List α}(u:Uq rows)(nw:ws.Nodup)(cw:∀r∈rows,r.1∈ws)(h:β):dI (ws.map (kW rows)) h=((fM rows h).length:Rat):=by
 unfold dI;rw[qI,zy6 u nw cw h,tE];grind
theorem zsc{rows:List (α×β×Int)}{m:List β}(nm:m.Nodup)(sub:∀r∈rows,r.2.1∈m)(f:β ->Rat):ao m (fun h=>((fM rows h).length:Rat)*f h)=ao rows fun r=>f r.2.1:=by
 have e:ao m (fun h=>((fM rows h).length:Rat)*f h)=ao m fun h=>ao rows fun r=>if r.2.1=h then f r.2.1 else 0:=by
  refine dX fun h _=> ?_;rw[<- tE (l:=fM rows h)];unfold fM;rw[tG];refine dX fun r _=> ?_;by_cases q:r.2.1=h
  ·rw[if_pos (decide_eq_true q),if_pos q,q]
  ·rw[if_neg (by simp [q]),if_neg q]
 rw[e,Gq];refine dX fun r hr=> ?_;have e2:ao m (fun h=>if r.2.1=h then f r.2.1 else 0)=ao m fun h=>if h∈ [r.2.1] then f r.2.1 else 0:=dX fun h _=>by
  by_cases q:r.2.1=h
  ·rw[if_pos q,if_pos (List.mem_singleton.mpr q.symm)]
  ·rw[if_neg q,if_neg fun z=>q (List.mem_singleton.mp z).symm]
 rw[e2,Bs (f:=fun _=>f r.2.1) (by simp) nm fun y hy=>by rw[List.mem_singleton.mp hy];exact sub r hr]
 show f r.2.1+0=_
 grind
structure kj (rows:List (α×β×Int)) (ws:List α) (m:List β):Prop where
 u:Uq rows
 nw:ws.Nodup
 cw:∀r∈rows,r.1∈ws
 nm:m.Nodup
 sub:∀r∈rows,r.2.1∈m
 on:∀h∈m,∃r∈rows,r.2.1=h
 min:∀C:β ->Prop,(∀w∈ws,(∃x∈kW rows w,C x) ->∀x∈kW rows w,C x) ->(∃x∈m,C x) ->∀x∈m,C x
theorem kj.sub'{rows:List (α×β×Int)}{ws:List α}{m:List β}(L:kj rows ws m):∀s∈ws.map (kW rows),∀x∈s,x∈m:=fun s hs x hx=>by
 obtain⟨w,_,rfl⟩:=zE.mp hs;obtain⟨r,h1,_,h3⟩:=eN.mp hx;rw[<- h3];exact L.sub r h1
theorem kj.ns{rows:List (α×β×Int)}{ws:List α}{m:List β}(L:kj rows ws m):∀s∈ws.map (kW rows),s.Nodup:=fun s hs=>by
 obtain⟨w,_,rfl⟩:=zE.mp hs;exact Sv L.u w
def fZ [Inhabited β](rows:List (α×β×Int))(ws:List α)(m:List β)(i j:Nat):Rat:=
 if j<m.length then(if i=0 then dI (ws.map (kW rows)) (m.getD j default) else bJ (ws.map (kW rows)) (m.getD i default) (m.getD j default))
 else if i=0 then 0 else fD (kW rows) (yW rows) ws (m.getD i default)
theorem zuu{γ:Type}[Inhabited γ]{m:List γ}{i:Nat}(h:i<m.length):m.getD i default∈m:=by
 rw[List.getD_eq_getElem?_getD,List.getElem?_eq_getElem h];exact yX h
theorem zp7 [Inhabited β]{rows:List (α×β×Int)}{ws:List α}{m:List β}(x:β ->Rat):bx m.length (fun j=>fZ rows ws m 0 j*x (m.getD j default))=ao m fun h=>dI (ws.map (kW rows)) h*x h:=by
 rw[<- zmw];refine wA fun j hj=> ?_;unfold fZ;rw[if_pos hj,if_pos rfl]
theorem zua [Inhabited β]{rows:List (α×β×Int)}{ws:List α}{m:List β}(L:kj rows ws m)(x:β ->Rat){i:Nat}(hi:i<m.length)(h0:i≠0):bx m.length (fun j=>fZ rows ws m i j*x (m.getD j default))=iH (ws.map (kW rows)) x (m.getD i default):=by
 rw[<- zvh L.ns L.nm L.sub' x (zuu hi),<- zmw];refine wA fun j hj=> ?_;unfold fZ;rw[if_pos hj,if_neg h0]
theorem zp3 [Inhabited β]{m:List β}{h0:β}{hs:List β}(e:m=h0::hs){h:β}(hh:h∈hs):∃i,i<m.length/\i≠0/\m.getD i default=h:=by
 obtain⟨i,hi,q⟩:=List.getElem_of_mem hh;subst e;refine⟨i+1,by simp;omega,by omega,?_⟩
 rw[List.getD_eq_getElem?_getD,List.getElem?_cons_succ,List.getElem?_eq_getElem hi,q];rfl
theorem kj.null [Inhabited β]{rows:List (α×β×Int)}{ws:List α}{m:List β}(L:kj rows ws m)(x:β ->Rat)(z:∀i,i<m.length ->bx m.length (fun j=>fZ rows ws m i j*x (m.getD j default))=0):∀h∈m,x h=0:=by
 cases em:m with
 | nil=>intro h hh;cases hh
 | cons h0 hs=>
  have nm:=L.nm;have sub:=L.sub';have on:=L.on;have mn:=L.min;rw[em] at nm sub on mn;refine zui L.ns nm sub (fun h hh=> ?_) (fun C hC=>mn C fun w hw=>hC _ (zE.mpr ⟨w,hw,rfl⟩)) (fun h hh=> ?_) ?_
  ·obtain⟨r,h1,h2⟩:=on h hh;exact⟨kW rows r.1,zE.mpr ⟨r.1,L.cw r h1,rfl⟩,eN.mpr ⟨r,h1,rfl,h2⟩⟩
  ·obtain⟨i,hi,i0,e⟩:=zp3 em hh;rw[<- e,<- zua L x hi i0];exact z i hi
  ·rw[<- em,<- zp7];exact z 0 (by rw[em];simp)
theorem kj.ans [Inhabited β]{rows:List (α×β×Int)}{ws:List α}{m:List β}(L:kj rows ws m)(x:β ->Rat)(z:∀i,i<m.length ->fZ rows ws m i m.length=bx m.length (fun j=>fZ rows ws m i j*x (m.getD j default))):(∀h∈m,jk rows x h)/\ao rows (fun r=>x r.2.1)=0:=by
 have e0:m≠ [] ->ao rows (fun r=>x r.2.1)=0:=fun ne=>by
  have q:=z 0 (List.length_pos_iff.mpr ne);rw[zp7] at q;unfold fZ at q;rw[if_neg (Nat.lt_irrefl _),if_pos rfl] at q;rw[<- zsc L.nm L.sub,q];exact dX fun h _=>by rw[zwy L.u L.nw L.cw]
 cases em:m with
 | nil=>
  refine⟨fun h hh=>(by cases hh),?_⟩
  cases er:rows with
  | nil=>rfl
  | cons r rs=>
   have:=L.sub r (by rw[er];exact zW)
   rw[em] at this;cases this
 | cons h0 hs=>
  refine⟨fun h hh=>zxa L.u L.nw L.cw x h (zwv (S:=ws) (k:=kW rows) (h0:=h0) (hs:=hs) (fun w _=>Sv L.u w) (em ▸ L.nm) (fun w hw y hy=>by rw[<- em];exact L.sub' _ (zE.mpr ⟨w,hw,rfl⟩) y hy) (yW rows) x (fun g hg=> ?_) h hh),e0 (by rw[em];simp)⟩
  obtain⟨i,hi,i0,e⟩:=zp3 em hg;have q:=z i hi;rw[zua L x hi i0] at q;unfold fZ at q;rw[if_neg (Nat.lt_irrefl _),if_neg i0,e] at q;exact q.symm
end
section
variable{α γ:Type}[DecidableEq γ]
theorem zri{f:α ->Rat}{p:α ->Bool}:∀{l:List α},ao l f=ao (l.filter p) f+ao (l.filter fun a=> !p a) f:=by
 intro l;rw[tG,tG,<- wB];refine dX fun a _=> ?_;cases p a
 ·simp [Rat.zero_add]
 ·simp [Rat.add_zero]
theorem zsm(key:α ->γ)(g:α ->Rat)(φ:γ ->Rat):∀(n:Nat) (l:List α),l.length<=n ->(∀c,ao (l.filter fun a=>decide (key a=c)) g=0) ->ao l (fun a=>φ (key a)*g a)=0:=by
 intro n;induction n with
 | zero=>
  intro l hl _;obtain rfl:l= []:=List.eq_nil_of_length_eq_zero (by omega)
  rfl
 | succ n ih=>
  intro l hl h;cases l with
  | nil=>rfl
  | cons a r=>
   rw[zri (p:=fun b=>decide (key b=key a))];have e1:ao ((a::r).filter fun b=>decide (key b=key a)) (fun b=>φ (key b)*g b)=0:=by
    have:ao ((a::r).filter fun b=>decide (key b=key a)) (fun b=>φ (key b)*g b)=ao ((a::r).filter fun b=>decide (key b=key a)) (fun b=>φ (key a)*g b):=
     dX fun b hb=>by rw[of_decide_eq_true (List.mem_filter.mp hb).2]
    rw[this,tD,h,Rat.mul_zero]
   rw[e1,ih]
   ·decide+kernel
   ·have:((a::r).filter fun b=> !decide (key b=key a)).length<=r.length:=by
     rw[List.filter_cons_of_neg (by simp)]
     exact List.length_filter_le _ _
    simp only [List.length_cons] at hl;omega
   ·intro c;rw[List.filter_filter];by_cases e:c=key a
    ·subst e;rw[show(a::r).filter (fun b=>decide (key b=key a)&& !decide (key b=key a))= [] from List.filter_eq_nil_iff.mpr fun b _=>by simp]
     rfl
    ·rw[show(a::r).filter (fun b=>decide (key b=c)&& !decide (key b=key a))=(a::r).filter (fun b=>decide (key b=c)) from List.filter_congr fun b _=>by
      by_cases q:key b=c
      ·simp [q,e]
      ·simp [q]]
     exact h c
theorem z0t{l:List α}{f d:α ->Rat}(o:ao l (fun a=>d a*f a)=0):ao l (fun a=>(f a+d a)* (f a+d a))=ao l (fun a=>f a*f a)+ao l fun a=>d a*d a:=by
 have:ao l (fun a=>(f a+d a)* (f a+d a))=ao l (fun a=>f a*f a+d a*d a+2* (d a*f a)):=dX fun a _=>by grind
 rw[this,wB,wB,tD,o,Rat.mul_zero,Rat.add_zero]
end
section
variable{α β:Type}[DecidableEq α][DecidableEq β]
def bO(rows:List (α×β×Int))(x:β ->Rat)(r:α×β×Int):Rat:=((r.2.2:Rat) - x r.2.1) - ao (bH rows r.1) (fun s=>(s.2.2:Rat) - x s.2.1)/ ((bH rows r.1).length:Rat)
theorem zvr(rows:List (α×β×Int))(x:β ->Rat)(w:α):ao (bH rows w) (bO rows x)=0:=by
 have e:ao (bH rows w) (bO rows x)=ao (bH rows w) (fun s=>(s.2.2:Rat) - x s.2.1) - ao (bH rows w) fun _=>ao (bH rows w) (fun s=>(s.2.2:Rat) - x s.2.1)/ ((bH rows w).length:Rat):=by
  rw[<- uI];refine dX fun r hr=> ?_;unfold bO;rw[(aP.mp hr).2]
 rw[e,tE];by_cases z:bH rows w= []
 ·rw[z];show(0:Rat) - ((0:Nat):Rat)* (0/ ((0:Nat):Rat))=0
  decide+kernel
 ·have n0:((bH rows w).length:Rat)≠0:=fun q=>z (List.eq_nil_of_length_eq_zero (by exact_mod_cast q))
  rw[Rat.div_def,Rat.mul_comm (((bH rows w).length:Rat)),Rat.mul_assoc,Rat.inv_mul_cancel _ n0,Rat.mul_one,Rat.sub_self]
theorem zop{rows:List (α×β×Int)}{x:β ->Rat}(ev:∀r∈rows,jk rows x r.2.1)(p:α ->Rat)(q:β ->Rat):ao rows (fun r=>(p r.1+q r.2.1)*bO rows x r)=0:=by
 have e:ao rows (fun r=>(p r.1+q r.2.1)*bO rows x r)=ao rows (fun r=>p r.1*bO rows x r)+ao rows fun r=>q r.2.1*bO rows x r:=by
  rw[<- wB];exact dX fun r _=>by grind
 rw[e,zsm (fun r:α×β×Int=>r.1) (bO rows x) p rows.length rows (Nat.le_refl _) (fun w=>zvr rows x w),
  zsm (fun r:α×β×Int=>r.2.1) (bO rows x) q rows.length rows (zM _) fun h=> ?_]
 ·decide+kernel
 ·by_cases z:∃r∈rows,r.2.1=h
  ·obtain⟨r,hr,rfl⟩:=z;exact ev r hr
  ·rw[show rows.filter (fun r=>decide (r.2.1=h))= [] from List.filter_eq_nil_iff.mpr fun r hr=>by
    simp only [decide_eq_true_eq];exact fun e=>z ⟨r,hr,e⟩]
   rfl
theorem zl8{rows:List (α×β×Int)}{x:β ->Rat}(ev:∀r∈rows,jk rows x r.2.1)(p:α ->Rat)(q:β ->Rat){g:α×β×Int ->Rat}(hg:∀r∈rows,g r=bO rows x r+ (p r.1+q r.2.1)):
  ao rows (fun r=>bO rows x r*bO rows x r)<=ao rows (fun r=>g r*g r)/\ (ao rows (fun r=>bO rows x r*bO rows x r)=ao rows (fun r=>g r*g r) ->∀r∈rows,g r=bO rows x r):=by
 have e:ao rows (fun r=>g r*g r)=ao rows (fun r=>bO rows x r*bO rows x r)+ao rows fun r=>(p r.1+q r.2.1)* (p r.1+q r.2.1):=by
  rw[<- z0t (zop ev p q)];exact dX fun r hr=>by rw[hg r hr]
 have n:0<=ao rows fun r=>(p r.1+q r.2.1)* (p r.1+q r.2.1):=Gs fun r _=>J5 _;refine⟨by grind,fun z r hr=> ?_⟩
 have z2:ao rows (fun r=>(p r.1+q r.2.1)* (p r.1+q r.2.1))=0:=by grind
 have:=zuy (Br (fun r _=>J5 _) z2 r hr);rw[hg r hr,this,Rat.add_zero]
end
section
variable{α β:Type}[DecidableEq α][DecidableEq β]
theorem zlr{rows:List (α×β×Int)}{x x' :β ->Rat}(ev:∀r∈rows,jk rows x r.2.1)(ev' :∀r∈rows,jk rows x' r.2.1):∀r∈rows,bO rows x' r=bO rows x r:=by
 have h1:=zl8 ev (fun w=>ao (bH rows w) (fun s=>(s.2.2:Rat) - x s.2.1)/ ((bH rows w).length:Rat) - ao (bH rows w) (fun s=>(s.2.2:Rat) - x' s.2.1)/ ((bH rows w).length:Rat)) (fun h=>x h - x' h) (g:=bO rows x') fun r _=>by
  unfold bO;grind
 have h2:=zl8 ev' (fun w=>ao (bH rows w) (fun s=>(s.2.2:Rat) - x' s.2.1)/ ((bH rows w).length:Rat) - ao (bH rows w) (fun s=>(s.2.2:Rat) - x s.2.1)/ ((bH rows w).length:Rat)) (fun h=>x' h - x h) (g:=bO rows x) fun r _=>by
  unfold bO;grind
 exact h1.2 (Rat.le_antisymm h1.1 h2.1)
theorem zsp{rows:List (α×β×Int)}{x x' :β ->Rat}(ev:∀r∈rows,jk rows x r.2.1)(ev' :∀r∈rows,jk rows x' r.2.1){r s:α×β×Int}(hr:r∈rows)(hs:s∈rows)(e:r.1=s.1):x r.2.1 - x' r.2.1=x s.2.1 - x' s.2.1:=by
 have h1:=zlr ev ev' r hr;have h2:=zlr ev ev' s hs;unfold bO at h1 h2;rw[e] at h1
 grind
theorem zu9{rows:List (α×β×Int)}{x x' :β ->Rat}{m:List β}(ev:∀r∈rows,jk rows x r.2.1)(ev' :∀r∈rows,jk rows x' r.2.1)(em:pZ rows x m)(em' :pZ rows x' m)
  (min:∀C:β ->Prop,(∀r∈rows,∀s∈rows,r.1=s.1 ->C r.2.1 ->C s.2.1) ->(∃h∈m,C h) ->∀h∈m,C h) (on:∀h∈m,∃r∈rows,r.2.1=h):∀h∈m,x h=x' h:=by
 intro h0 hh;have same:=min (fun h=>x h - x' h=x h0 - x' h0) (fun r hr s hs e c=>by
  have:=zsp ev ev' hr hs e;show x s.2.1 - x' s.2.1=_;rw[<- this];exact c) ⟨h0,hh,rfl⟩
 unfold pZ at em em';have z:ao (ofM rows m) (fun r=>x r.2.1 - x' r.2.1)=0:=by rw[uI,em,em'];decide+kernel
 have z2:ao (ofM rows m) (fun r=>x r.2.1 - x' r.2.1)=ao (ofM rows m) fun _=>x h0 - x' h0:=dX fun r hr=>same _ (cA.mp hr).2;rw[z2,tE] at z;obtain⟨r,hr,e⟩:=on h0 hh;have pos:0< (ofM rows m).length:=List.length_pos_iff.mpr fun q=>by
  have:=cA.mpr ⟨hr,e ▸ hh⟩;rw[q] at this;cases this
 rcases Rat.mul_eq_zero.mp z with q | q
 ·have:(ofM rows m).length=0:=by exact_mod_cast q
  omega
 ·grind
end
section
variable{α β:Type}[DecidableEq α][DecidableEq β]
def ju(hd:β)(b:Int)(r:α×β×Int):α×β×Int:=(r.1,r.2.1,r.2.2+b* (if r.2.1=hd then 1 else 0))
theorem zzk{rows:List (α×β×Int)}{hd:β}{b:Int}{w:α}:bH (rows.map (ju hd b)) w=(bH rows w).map (ju hd b):=by unfold bH;rw[List.filter_map];rfl
theorem z4e{rows:List (α×β×Int)}{hd:β}{b:Int}{h:β}:fM (rows.map (ju hd b)) h=(fM rows h).map (ju hd b):=by unfold fM;rw[List.filter_map];rfl
theorem z2m{rows:List (α×β×Int)}{hd:β}{b:Int}{m:List β}:ofM (rows.map (ju hd b)) m=(ofM rows m).map (ju hd b):=by unfold ofM;rw[List.filter_map];rfl
theorem Uq.mv{rows:List (α×β×Int)}{hd:β}{b:Int}(u:Uq rows):Uq (rows.map (ju hd b)):=by
 unfold Uq at u⊢;rw[List.pairwise_map];exact u
def iY(rows:List (α×β×Int))(x:β ->Rat)(hd:β)(b:Int)(g:List β)(h:β):Rat:=
 if h∈g then x h+ (b:Rat)* ((if h=hd then 1 else 0) - ((fM rows hd).length:Rat)/ ((ofM rows g).length:Rat)) else x h
theorem zts{rows:List (α×β×Int)}{x:β ->Rat}{hd:β}{b:Int}{g:List β}(hg:hd∈g)(r:α×β×Int):
  ((ju hd b r).2.2:Rat) - iY rows x hd b g (ju hd b r).2.1=((r.2.2:Rat) - x r.2.1)+if r.2.1∈g then(b:Rat)* (((fM rows hd).length:Rat)/ ((ofM rows g).length:Rat)) else 0:=by
 unfold ju iY;dsimp only;by_cases q:r.2.1∈g
 ·rw[if_pos q,if_pos q];by_cases p:r.2.1=hd
  ·rw[if_pos p,if_pos p,Rat.intCast_add,Rat.intCast_mul];grind
  ·rw[if_neg p,if_neg p,Rat.intCast_add,Rat.intCast_mul];grind
 ·have p:¬r.2.1=hd:=fun z=>q (by rw[z];exact hg)
  rw[if_neg q,if_neg q,if_neg p,Rat.intCast_add,Rat.intCast_mul];grind
theorem z5a{rows:List (α×β×Int)}{x:β ->Rat}{hd:β}{b:Int}{g:List β}(hg:hd∈g)(cl:∀r∈rows,r.2.1∈g ->∀s∈rows,r.1=s.1 ->s.2.1∈g){h:β}(e:jk rows x h):jk (rows.map (ju hd b)) (iY rows x hd b g) h:=by
 unfold jk at e⊢;rw[z4e,qI,<- e];refine dX fun r hr=> ?_;have hr' :=(cW.mp hr).1;rw[zts hg];have e1:(ju hd b r).1=r.1:=rfl;rw[e1,zzk,qI,List.length_map];generalize hk:(b:Rat)* (((fM rows hd).length:Rat)/ ((ofM rows g).length:Rat))=k;have e2:ao (bH rows r.1) (fun a=>((ju hd b a).2.2:Rat) - iY rows x hd b g (ju hd b a).2.1)=ao (bH rows r.1) fun a=>((a.2.2:Rat) - x a.2.1)+if r.2.1∈g then k else 0:=by
  refine dX fun s hs=> ?_;have hs' :=aP.mp hs;rw[zts hg,hk];have:s.2.1∈g↔r.2.1∈g:=⟨fun z=>cl s hs'.1 z r hr' hs'.2,fun z=>cl r hr' z s hs'.1 hs'.2.symm⟩;by_cases q:r.2.1∈g
  ·rw[if_pos q,if_pos (this.mpr q)]
  ·rw[if_neg q,if_neg fun z=>q (this.mp z)]
 rw[e2,wB,tE];have n0:((bH rows r.1).length:Rat)≠0:=fun z=>by
  have:(bH rows r.1).length=0:=by exact_mod_cast z
  have:=List.length_eq_zero_iff.mp this;have h2:=aP.mpr ⟨hr',(rfl:r.1=r.1)⟩;rw[this] at h2;cases h2
 generalize ao (bH rows r.1) _=S;generalize (if r.2.1∈g then k else 0)=c;generalize ((bH rows r.1).length:Rat)=n at n0;have:(S+n*c)/n=S/n+c:=by
  rw[Rat.div_def,Rat.div_def];have:=Rat.mul_inv_cancel _ n0
  grind
 rw[this];grind
theorem z5e{rows:List (α×β×Int)}{x:β ->Rat}{hd:β}{b:Int}{g:List β}(hg:hd∈g)(on:∃r∈rows,r.2.1∈g){m:List β}(dj:m=g\/∀h∈m,h∉g)(e:pZ rows x m):pZ (rows.map (ju hd b)) (iY rows x hd b g) m:=by
 unfold pZ at e⊢;rw[z2m,qI];have e0:∀r:α×β×Int,(ju hd b r).2.1=r.2.1:=fun _=>rfl;rcases dj with rfl | dj
 ·have e1:ao (ofM rows m) (fun a=>iY rows x hd b m (ju hd b a).2.1)=ao (ofM rows m) fun a=>x a.2.1+ (b:Rat)* ((if a.2.1=hd then 1 else 0) - ((fM rows hd).length:Rat)/ ((ofM rows m).length:Rat)):=by
   refine dX fun r hr=> ?_;rw[e0];unfold iY;rw[if_pos (cA.mp hr).2]
  rw[e1,wB,e,tD,uI,tE];have e2:ao (ofM rows m) (fun a=>if a.2.1=hd then 1 else 0)=((fM rows hd).length:Rat):=by
   have:fM rows hd=(ofM rows m).filter fun r=>decide (r.2.1=hd):=by
    unfold fM ofM;rw[List.filter_filter];refine List.filter_congr fun r _=> ?_;by_cases q:r.2.1=hd
    ·simp [q,hg]
    ·simp [q]
   have h2:ao (ofM rows m) (fun a=>if a.2.1=hd then 1 else 0)=ao (fM rows hd) fun _=>1:=by
    rw[this,tG];exact dX fun r _=>by by_cases q:r.2.1=hd<;>simp [q]
   rw[h2,tE];grind
  rw[e2];have n0:((ofM rows m).length:Rat)≠0:=fun z=>by
   have:(ofM rows m).length=0:=by exact_mod_cast z
   have:=List.length_eq_zero_iff.mp this;obtain⟨r,hr,h1⟩:=on;have h2:=cA.mpr ⟨hr,h1⟩;rw[this] at h2;cases h2
  generalize ((ofM rows m).length:Rat)=n at n0;rw[Rat.div_def];have:=Rat.mul_inv_cancel _ n0
  grind
 ·rw[<- e];refine dX fun r hr=> ?_;rw[e0];unfold iY;rw[if_neg (dj _ (cA.mp hr).2)]
theorem z16{rows cH :List (α×β×Int)}(p:rows.Perm cH){x:β ->Rat}{h:β}(e:jk rows x h):jk cH x h:=by
 unfold jk at e⊢;rw[<- e];have hp:(fM cH h).Perm (fM rows h):=p.symm.filter _;rw[J4 hp];refine dX fun r _=> ?_;have wp:(bH cH r.1).Perm (bH rows r.1):=p.symm.filter _;rw[J4 wp,wp.length_eq]
theorem z1t{rows cH :List (α×β×Int)}(p:rows.Perm cH){x:β ->Rat}{m:List β}(e:pZ rows x m):pZ cH x m:=by
 unfold pZ at e⊢;rw[<- e];exact J4 (p.symm.filter _)
end
end HM
namespace L3
open PySem L2 HM
local macro_rules | `(tactic| and_intros)=> `(tactic| dsimp only [aC,cN,cC,cV,cB,cT,Nx,cOr,xO,pN,xP,DR,IK,aq,aj,jN,gk,dg,DW,bN,DX,fP,aO,iR,hName,iC,aW,iD,xU,xV,aD,cU,jP,rR,fu,nu,cJ,iU,cY,uY,Ed,gLe,Af,gGe,gIs,Oi,lZ,Ah,fL,wI,vU,Aj,pP,z4z,z43,mO,Oq,Ef,Ow,O1,List.length,List.set_cons_zero,List.set_cons_succ,List.getElem?_cons_zero,List.getElem?_cons_succ,rQ,rB,Ep,z1n,Ar,Av,Aw,yj,sy,yp,Pz,Ay,Ax,zw5,lO,rC,yt,yu,yw,zxr,Eu,Qc,Qd,iL,pQ,jm,Er,gW,List.map,List.append,List.cons_append,List.nil_append])
def Bu(_:Cls):cj:=fun ds P _=>∃i j,ds= [.int i,.int j]/\P (.int (Int.gcd i j))
def wD(c:Cls):cj:=fun ds P E=>∃i j:Int,ds= [.int i,.int j]/\bD i<=9000/\bD j<=9000/\if j=0 then E (.ref c.bI) else P (qD ((i:Rat)/ (j:Rat)))
def Bv(c:Cls):cj:=fun ds P _=>∃a b:Rat,ds= [qD a,qD b]/\Sz 4000 a/\Sz 4000 b/\P (qD (a+b))
def Gw(c:Cls):cj:=fun ds P _=>∃a b:Rat,ds= [qD a,qD b]/\Sz 4000 a/\Sz 4000 b/\P (qD (a - b))
def z4v(c:Cls):cj:=fun ds P _=>∃a b:Rat,ds= [qD a,qD b]/\Sz 4000 a/\Sz 4000 b/\P (qD (a*b))
def z5m(c:Cls):cj:=fun ds P E=>∃a b:Rat,ds= [qD a,qD b]/\Sz 4000 a/\Sz 4000 b/\if b=0 then E (.ref c.bI) else P (qD (a/b))
def z4s(c:Cls):cj:=fun ds P _=>∃a b:Rat,ds= [qD a,qD b]/\Sz 4000 a/\Sz 4000 b/\P (.bl (decide (a<b)))
def eY(ns:List Int)(k:Nat):Int:=if h:k<ns.length then ns[k] else
 let m:Int:=if ns= [] then(k:Int)*7919+5 else(ns.getD ((k*7) % ns.length) 0*48271+ (k:Int)*7919).fmod 2147483647
 (m*m).fmod 2147483629
def p7(_:Cls):cj:=fun ds P _=>∃(ns:List Int) (k:Nat),ds= [.lst (ns.map .int),.int k]/\ns.length<=63/\k<1000/\P (.int (eY ns k))
def z4m(_:Cls):cj:=fun ds P _=>∃(x:D) (f:Rat),ds= [x,qD f]/\ (x= .non\/∃g,x=qD g)/\∀b:Bool,(b=true↔x=qD f) ->P (.bl b)
def J9(_:Cls):cj:=Je
def dM:List Rat ->Rat | []=>0 | q::qs=>q+dM qs
theorem zn1(a b:List Rat):dM (a++b)=dM a+dM b:=by
 induction a with
 | nil=>simp [dM,Rat.zero_add]
 | cons x xs ih=>simp only [List.cons_append,dM,ih,Rat.add_assoc]
def Bw(c:Cls):cj:=fun ds P _=>∃qs:List Rat,ds= [.lst (qs.map qD)]/\ (∀q∈qs,Sz 4000 q)/\ (∀k,Sz 4000 (dM (qs.take k)))/\P (qD (dM qs))
def z49(c:Cls):cj:=fun ds P E=>∃qs:List Rat,ds= [.lst (qs.map qD)]/\qs.length<=1000/\ (∀q∈qs,Sz 4000 q)/\ (∀k,Sz 4000 (dM (qs.take k)))/\if qs= [] then E (.ref c.bI) else P (qD (dM qs/ (qs.length:Int)))
abbrev Mx:=Nat ->Nat ->Int
abbrev Mq:=Nat ->Nat ->Rat
def Gx(k s:Nat)(a:Mx):Mx:=fun i=>a (jt k s i)
def bW(m:Nat)(f:Nat ->Int):D:= .lst ((List.range m).map fun j=> .int (f j))
def gY(n m:Nat)(a:Mx):D:= .lst ((List.range n).map fun i=>bW m (a i))
def gB(m:Nat)(f:Nat ->Rat):D:= .lst ((List.range m).map fun j=>qD (f j))
def tH(n m:Nat)(a:Mq):D:= .lst ((List.range n).map fun i=>gB m (a i))
def Ka(q:Rat):Prop:=bD q.num<=400/\bD (q.den:Int)<=16
def Gy(_:Cls):cj:=fun ds P _=>∃(m:Nat) (f:Nat ->Rat),ds= [gB m f]/\m<=13/\ (∀j,j<m ->Ka (f j))/\∀(μ:Int) (g:Nat ->Int),0<μ ->(∀j,j<m ->(g j:Rat)=(μ:Rat)*f j) ->(∀j,bD (g j)<=640) ->P (bW m g)
def Gz(_:Cls):cj:=fun ds P _=>∃(m k:Nat) (f g:Nat ->Int) (p:Int),ds= [bW m f,bW m g,.int k,.int p]/\k<m/\p≠0/\bD p<=9000/\ (∀j,bD (f j)<=9000)/\ (∀j,bD (g j)<=9000)/\P (bW m fun j=>(g k*f j - f k*g j).fdiv p)
def qJ(k:Nat)(p:Int)(a:Mx):Mx:=fun i j=>if i=k then a k j else(a k k*a i j - a i k*a k j).fdiv p
def GC(_:Cls):cj:=fun ds P _=>∃(a:Mx) (n m k:Nat) (p:Int),ds= [gY n m a,.int k,.int p]/\k<n/\k<m/\p≠0/\bD p<=9000/\ (∀i j,i<n ->bD (a i j)<=9000)/\P (gY n m (qJ k p a))
def GD(_:Cls):cj:=fun ds P _=>∃(a:Mx) (n m k s:Nat),ds= [gY n m a,.int k,.int s]/\k<n/\s<n/\P (gY n m (Gx k s a))
def GF(c:Cls):cj:=fun ds P E=>∃(a:Mx) (n m k:Nat),ds= [gY n m a,.int k]/\n<=1000/\k<n/\k<m/\ (∀s,k<=s ->s<n ->a s k≠0 ->P (gY n m (Gx k s a)))/\ ((∀s,k<=s ->s<n ->a s k=0) ->E (.ref c.dG))
def Sys(n:Nat)(A:Mq)(ds:List D):Prop:=ds= [tH n n A,gB n fun i=>A i n]/\n<=12/\∀i j,i<n ->j<=n ->Ka (A i j)
def Slv(n:Nat)(A:Mq)(x:Nat ->Rat):Prop:=∀r,r<n ->A r n=bx n fun j=>A r j*x j
def GJ(c:Cls):cj:=fun ds P E=>∃(n:Nat) (A:Mq),Sys n A ds/\ (∀(y:Nat ->Rat) (k:Nat),k<n ->y k=1 ->(∀r,r<n ->(bx n fun j=>A r j*y j)=0) ->E (.ref c.dG))/\∀x,Slv n A x ->(∀i,i<n ->Sz 8500 (x i)) ->P (gB n x)
abbrev Rw:=Str×Str×Int
def jw(r:Rw):D:= .tup [.str r.1,.str r.2.1,.int r.2.2]
def aK(rs:List Rw):D:= .lst (rs.map jw)
def eO(rows:List Rw)(w:Str):List Str:=(rows.filter fun r=>decide (r.1=w)).map fun r=>r.2.1
structure Sx (rows:List Rw) (Ss:List (List Str)):Prop where
 of:∀S∈Ss,∃r∈rows,∀x,x∈S↔x∈eO rows r.1
 to:∀r∈rows,∃S∈Ss,∀x,x∈S↔x∈eO rows r.1
structure mW (rows:List Rw) (ms:List (List Str)):Prop where
 sr:∀m∈ms,m.Pairwise fun a b=>gh a b=true
 up:ms.Pairwise fun a b=>gh (hdS a) (hdS b)=true
 pi:∃Ss,Sx rows Ss/\dU Ss ms
def p8(p:List Str×List D):T:= .dic (p.1.map .inr) (p.2.map .leaf)
structure yU (rows:List Rw) (ws:List Str) (ps:List (List Str×List D)):Prop where
 len:ws.length=ps.length
 nd:ws.Nodup
 lw:ws.length<=rows.length
 wm:∀w,w∈ws↔∃r∈rows,r.1=w
 pt:∀(q:Nat) w p,ws[q]?=some w ->ps[q]?=some p ->p.1.length=p.2.length/\p.1.Nodup/\p.1.length<=rows.length/\∀h,h∈p.1↔h∈eO rows w
 ex:Uq rows ->∀(q:Nat) w p,ws[q]?=some w ->ps[q]?=some p ->p=(kW rows w,(bH rows w).map fun r=> .int r.2.2)
def Bx(_:Cls):pW:=fun ds P _=>∃rows:List Rw,ds= [aK rows]/\rows.length<=1000/\∀ws ps,yU rows ws ps ->P (.dic (ws.map .inr) (ps.map p8))
def BJ(_:Cls):cj:=fun ds P _=>∃g hs:List Str,ds= [gl g,gl hs]/\P (.bl (aF g hs))
def GK(_:Cls):cj:=fun ds P _=>∃(fs:List (List Str)) (hs U:List Str),ds= [.lst (fs.map gl),gl hs]/\hs.length+fs.flatten.length<4000/\fs.length<4000/\U.length<60/\ (∀x∈hs,x∈U)/\ (∀f∈fs,∀x∈f,x∈U)/\
 ∀g:List Str,g.Pairwise (fun a b=>gh a b=true) ->(∀x,x∈g↔x∈hs\/∃f∈fs,aF f hs=true/\x∈f) ->P (.lst ((fs.filter (fun f=> !aF f hs)++ [g]).map gl))
def GP(_:Cls):pW:=fun ds P _=>∃(rows:List Rw) (U:List Str),ds= [aK rows]/\rows.length<=1000/\U.length<60/\ (∀r∈rows,r.2.1∈U)/\∀ms,mW rows ms ->P (.lst ((ms.map gl).map .leaf))
def uJ(rows:List Rw)(w:Str):D:= .dic ((kW rows w).map .inr) ((bH rows w).map fun r=> .int r.2.2)
def jR(rows:List Rw)(ws:List Str):D:= .lst (ws.map (uJ rows))
structure LB (rows:List Rw):Prop where
 few:rows.length<=200
 mm:∀r∈rows,r.2.2.natAbs<2^100
 wk:∀w,(bH rows w).length<=12
def n8(rows:List Rw)(ws:List Str):Prop:=ws.length<=200/\∀w∈ws,bH rows w≠ []
def wF(_:Cls):cj:=fun ds P _=>∃(rows:List Rw) (ws:List Str) (h:Str),ds= [.str h,jR rows ws]/\P (jR rows (ws.filter fun w=>decide (h∈kW rows w)))
def GQ(_:Cls):cj:=fun ds P _=>∃(rows:List Rw) (ws:List Str) (h o:Str),ds= [.str h,.str o,jR rows ws]/\LB rows/\n8 rows ws/\P (qD (bJ (ws.map (kW rows)) h o))
def GR(_:Cls):cj:=fun ds P _=>∃(rows:List Rw) (ws m:List Str) (h:Str),ds= [.str h,gl m,jR rows ws]/\LB rows/\n8 rows ws/\P (.lst (m.map fun o=>qD (bJ (ws.map (kW rows)) h o)))
def GX(_:Cls):cj:=fun ds P _=>∃(rows:List Rw) (w:Str),ds= [uJ rows w]/\LB rows/\bH rows w≠ []/\P (qD (ao (bH rows w) (fun r=>(r.2.2:Rat))/ ((bH rows w).length:Rat)))
def G3(_:Cls):cj:=fun ds P _=>∃(rows:List Rw) (ws:List Str) (h:Str),ds= [.str h,jR rows ws]/\Uq rows/\LB rows/\n8 rows ws/\P (qD (fD (kW rows) (yW rows) ws h))
def G4(_:Cls):cj:=fun ds P _=>∃(rows:List Rw) (ws m:List Str),ds= [gl m,jR rows ws]/\kj rows ws m/\LB rows/\n8 rows ws/\m≠ []/\m.length<=12/\
 ∀x:Str ->Rat,(∀h∈m,jk rows x h) ->ao rows (fun r=>x r.2.1)=0 ->(∀h∈m,Sz 8500 (x h)) ->P (.lst (m.map fun h=>qD (x h)))
structure Lean (rows:List Rw) (ms:List (List Str)) (x:Str ->Rat):Prop where
 g:mW rows ms
 ev:∀m∈ms,∀h∈m,jk rows x h
 em:∀m∈ms,pZ rows x m
 sz:∀m∈ms,∀h∈m,Sz 8500 (x h)
def cZ(hs:List Str)(x:Str ->Rat):T:= .dic (hs.map .inr) ((hs.map fun h=>qD (x h)).map .leaf)
def cX(hs:List Str)(x:Str ->Rat):D:= .dik (hs.map .inr) (hs.map fun h=>qD (x h))
def za(_:Cls):pW:=fun ds P _=>∃(rows:List Rw) (U:List Str),ds= [aK rows]/\Uq rows/\LB rows/\U.length<=12/\ (∀r∈rows,r.2.1∈U)/\∀ms x,Lean rows ms x ->P (cZ ms.flatten x)
def G5(_:Cls):cj:=fun ds P _=>∃(rows:List Rw) (U:List Str) (c:Nat),ds= [aK rows]/\U.length<60/\ (∀r∈rows,r.2.1∈U)/\ (∀w,(eO rows w).length<=c)/\rows.length* (1+c)<4000/\∀ms,mW rows ms ->P (.lst (ms.map gl))
def BK(_:Cls):cj:=fun ds P _=>∃(n:Int) (m:Nat),ds= [.int n,.int m]/\m<=20/\∀xs:List Str,xs.length=m ->xs.Nodup ->P (.lst (xs.map .str))
def G6(_:Cls):cj:=fun ds P _=>∃a b d e n:Int,ds= [.int a,.int b,.int d,.int e,.int n]/\e≠0/\∀t:Bool,P (.bl t)
def G7(_:Cls):cj:=fun ds P _=>∃(ns:List Int) (hands works:Nat),ds= [.lst (ns.map .int),.int hands,.int works]/\ns.length<=63/\1<=hands/\hands<=5/\works<=8/\
 ∀(rows:List Rw) (U:List Str),rows.length<=40 ->U.length<=hands ->(∀r∈rows,r.2.1∈U) ->Uq rows ->(∀r∈rows,r.2.2.natAbs<2^40) ->P (aK rows)
def G8(_:Cls):cj:=fun ds P _=>∃i j:Int,ds= [.int i,.int j]/\P (.int (Int.gcd i j))
theorem zs9{c:Cls}{ds P E}(h:Bx c ds P E):ds.length=1:=by obtain⟨_,rfl,_⟩:=h;rfl
theorem z2i{c:Cls}{ds P E}(h:BJ c ds P E):ds.length=2:=by obtain⟨_,_,rfl,_⟩:=h;rfl
theorem zx7{c:Cls}{ds P E}(h:GK c ds P E):ds.length=2:=by obtain⟨_,_,_,rfl,_⟩:=h;rfl
theorem zxv{c:Cls}{ds P E}(h:GP c ds P E):ds.length=1:=by obtain⟨_,_,rfl,_⟩:=h;rfl
theorem zj6{c:Cls}{ds P E}(h:wF c ds P E):ds.length=2:=by obtain⟨_,_,_,rfl,_⟩:=h;rfl
theorem z0v{c:Cls}{ds P E}(h:GQ c ds P E):ds.length=3:=by obtain⟨_,_,_,_,rfl,_⟩:=h;rfl
theorem zxs{c:Cls}{ds P E}(h:GR c ds P E):ds.length=3:=by obtain⟨_,_,_,_,rfl,_⟩:=h;rfl
theorem zn2{c:Cls}{ds P E}(h:GX c ds P E):ds.length=1:=by obtain⟨_,_,rfl,_⟩:=h;rfl
theorem zwa{c:Cls}{ds P E}(h:G3 c ds P E):ds.length=2:=by obtain⟨_,_,_,rfl,_⟩:=h;rfl
theorem zg1{c:Cls}{ds P E}(h:G4 c ds P E):ds.length=2:=by obtain⟨_,_,_,rfl,_⟩:=h;rfl
theorem zrc{c:Cls}{ds P E}(h:za c ds P E):ds.length=1:=by obtain⟨_,_,rfl,_⟩:=h;rfl
theorem zof{c:Cls}{ds P E}(h:BK c ds P E):ds.length=2:=by obtain⟨_,_,rfl,_⟩:=h;rfl
theorem zl9{c:Cls}{ds P E}(h:G6 c ds P E):ds.length=5:=by obtain⟨_,_,_,_,_,rfl,_⟩:=h;rfl
theorem zrw{c:Cls}{ds P E}(h:G7 c ds P E):ds.length=3:=by obtain⟨_,_,_,rfl,_⟩:=h;rfl
theorem zlh{c:Cls}{ds P E}(h:G8 c ds P E):ds.length=2:=by obtain⟨_,_,rfl,_⟩:=h;rfl
theorem zm5{c:Cls}{ds P E}(h:G5 c ds P E):ds.length=1:=by obtain⟨_,_,_,rfl,_⟩:=h;rfl
def G9(_:Cls):cj:=fun ds P _=>∃i j:Int,ds= [.int i,.int j]/\bD i<=9000/\bD j<=9000/\j≠0/\P (qD ((i:Rat)/ (j:Rat)))
theorem zvo{c:Cls}{ds P E}(h:G9 c ds P E):ds.length=2:=by obtain⟨_,_,rfl,_⟩:=h;rfl
def Hf(_:Cls):cj:=fun ds P _=>∃(rows:List Rw) (hd:Str) (b:Int),ds= [aK rows,.str hd,.int b]/\rows.length<=40/\P (aK (rows.map (ju hd b)))
def Hg(_:Cls):cj:=fun ds P _=>∃(rows:List Rw) (U:List Str) (ms:List (List Str)) (x:Str ->Rat) (hd:Str) (b:Int) (g:List Str),ds= [aK rows,cX ms.flatten x,.str hd,.int b]/\Lean rows ms x/\rows.length<=40/\U.length<=12/\ (∀r∈rows,r.2.1∈U)/\ (∀w,(eO rows w).length<=4)/\b.natAbs<2^41/\g∈ms/\hd∈g/\P (cX ms.flatten (iY rows x hd b g))
theorem zod{c:Cls}{ds P E}(h:Hf c ds P E):ds.length=3:=by obtain⟨_,_,_,rfl,_⟩:=h;rfl
theorem zvc{c:Cls}{ds P E}(h:Hg c ds P E):ds.length=4:=by obtain⟨_,_,_,_,_,_,_,rfl,_⟩:=h;rfl
def Sy(K:W.Frag)(c:Cls):au:=(aO 7 (cB fu (cV 7) (cB fL (cV 2) (cB cY (cB fu (cV 9) (cB cJ (cV 6) (jP yw (aj (pN (cB lZ (cV 8) (cV 4)) (cB Ah (cB cY (cV 0) (cC (.int 3))) (cC (.int 1)))) aq)))) (cC (.int 26))))))
def SJ(K:W.Frag)(c:Cls):au:=(aC (aO 9 (cB cY (cB fu (cB fu (cB cJ (cB iU (cV 0) (cC (.int 24))) (cC (.int 48271))) (cB cJ (cB cJ (cV 8) (cV 8)) (cC (.int 69621)))) (cB cJ (cV 8) (cC (.int 7)))) (cC (.int 2147483647))))
 (Sy K c))
def zf8(K:W.Frag)(c:Cls):au:=(Ay 5 Ax (aj (cV 7) aq))
def zc0(K:W.Frag)(c:Cls):au:=(aC (lY (aj (cB fu (cV 3) (cB cJ (cV 6) (jP yw (aj (cB lZ (cB cY (cV 0) (cC (.int 3))) (cC (.int 1))) aq)))) aq) (hName 8)
 (SJ K c))
 (zf8 K c))
def SM(K:W.Frag)(c:Cls):au:=(aC (aO 7 (cC (.str (Str.ofString ""))))
 (zc0 K c))
def ziy(K:W.Frag)(c:Cls):au:=(bN (cV 5))
def zer(K:W.Frag)(c:Cls):au:=(aC (lY (aj (cV 1) aq) (hName 6)
 (SM K c))
 (ziy K c))
def zew(K:W.Frag)(c:Cls):au:=(aC (iR 5 (gk aq))
 (zer K c))
def SN(K:W.Frag)(c:Cls):au:=(aC (aO 4 (cB cY (cB iU (cV 0) (cC (.int 24))) (cV 3)))
 (zew K c))
def zeu(K:W.Frag)(c:Cls):au:=(aC (fP (cT (cB lZ (cB cY (cV 0) (cC (.int 3))) (cC (.int 1))))
 (aO 3 (cC (.int 1)))
 cN)
 (SN K c))
def zep(K:W.Frag)(c:Cls):au:=(aC (aO 3 (cB fu (cC (.int 1)) (cB cY (cB iU (cV 0) (cC (.int 3))) (cC (.int 8)))))
 (zeu K c))
def Kc(K:W.Frag)(c:Cls):au:=(aC (aO 2 (cC (.str (Str.ofString "abcdefghijklmnopqrstuvwxyz"))))
 (zep K c))
def zkz(K:W.Frag)(c:Cls):au:=(bN (cB cY (cB cJ (cV 2) (cV 2)) (cC (.int 2147483629))))
def zk0(K:W.Frag)(c:Cls):au:=(aC (fP (cT (cB Af (jP pP (aj (cV 0) aq)) (cC (.int 0))))
 (aO 2 (cB cY (cB fu (cB cJ (cB fL (cV 0) (cB cY (cB cJ (cV 1) (cC (.int 7))) (jP pP (aj (cV 0) aq)))) (cC (.int 48271))) (cB cJ (cV 1) (cC (.int 7919)))) (cC (.int 2147483647))))
 cN)
 (zkz K c))
def zka(K:W.Frag)(c:Cls):au:=(aC (aO 2 (cB fu (cB cJ (cV 1) (cC (.int 7919))) (cC (.int 5))))
 (zk0 K c))
def zhv(K:W.Frag)(c:Cls):au:=(aC (fP (cT (cB Ed (cV 1) (jP pP (aj (cV 0) aq))))
 (bN (cB fL (cV 0) (cV 1)))
 cN)
 (zka K c))
def zhn(K:W.Frag)(c:Cls):au:=(bN (cC (.bl true)))
def zd4(K:W.Frag)(c:Cls):au:=(aC (fP (cT (cB lZ (cV 0) (cC (.int 2))))
 (bN (pN (cB lZ (cB cY (cV 1) (cC (.int 2))) (cB cY (cV 2) (cC (.int 2)))) (cB Af (cB cY (cV 4) (cC (.int 4))) (cC (.int 0)))))
 cN)
 (zhn K c))
def zdy(K:W.Frag)(c:Cls):au:=(aC (fP (cT (cB lZ (cV 0) (cC (.int 1))))
 (bN (xP (cB lZ (cV 2) (cB cY (cV 1) (cV 3))) (cB lZ (cV 2) (cB cY (cB fu (cV 1) (cC (.int 1))) (cV 3)))))
 cN)
 (zd4 K c))
def Kd(K:W.Frag)(c:Cls):au:=(aC (fP (cT (cB lZ (cV 0) (cC (.int 0))))
 (bN (cB Af (cB cY (cV 4) (cC (.int 3))) (cC (.int 0))))
 cN)
 (zdy K c))
def zdq(K:W.Frag)(c:Cls):au:=(fP (cT (aD (G6 c) (aj (cV 3) (aj (cV 8) (aj (cV 9) (aj (cV 1) (aj (cV 10) aq)))))))
 (Ay 7 Ax (aj (jN (aj (cB fL (cV 5) (cV 8)) (aj (cB fL (cV 6) (cV 9)) (aj (cB cY (cB iU (cV 10) (cC (.int 12))) (cV 4)) aq)))) aq))
 cN)
def SQ(K:W.Frag)(c:Cls):au:=(aC (aO 10 (aD (p7 c) (aj (cV 0) (aj (cB fu (cB fu (cC (.int 6)) (cB cJ (cV 8) (cV 1))) (cV 9)) aq))))
 (zdq K c))
def SX(K:W.Frag)(c:Cls):au:=(lY (aj (cV 1) aq) (hName 9)
 (SQ K c))
def zfw(K:W.Frag)(c:Cls):au:=(bN (dg (lO (dg (Aw (cV 7) (Av (cV 11)) Ar)) (dg (Aw (cV 7) Ar (Av (cV 11)))))))
def zf5(K:W.Frag)(c:Cls):au:=(aC (aO 11 (cB cY (cB iU (aD (p7 c) (aj (cV 0) (aj (cC (.int 3)) aq))) (cC (.int 4))) (cB fu (sy (jP pP (aj (cV 7) aq))) (cC (.int 1)))))
 (zfw K c))
def zfu(K:W.Frag)(c:Cls):au:=(aC (lY (aj (cV 2) aq) (hName 8)
 (SX K c))
 (zf5 K c))
def zfl(K:W.Frag)(c:Cls):au:=(aC (iR 7 (gk aq))
 (zfu K c))
def zfo(K:W.Frag)(c:Cls):au:=(aC (aO 6 (aD (BK c) (aj (aD (p7 c) (aj (cV 0) (aj (cC (.int 5)) aq))) (aj (cV 1) aq))))
 (zfl K c))
def S5(K:W.Frag)(c:Cls):au:=(aC (aO 5 (aD (BK c) (aj (aD (p7 c) (aj (cV 0) (aj (cC (.int 4)) aq))) (aj (cV 2) aq))))
 (zfo K c))
def zff(K:W.Frag)(c:Cls):au:=(aC (aO 4 (cB fL (dg (gk (aj (cC (.int 10)) (aj (cC (.int 4)) (aj (cC (.int 10)) (aj (cB uY (cC (.int 10)) (cC (.int 12))) aq)))))) (cB cY (aD (p7 c) (aj (cV 0) (aj (cC (.int 3)) aq))) (cC (.int 4)))))
 (S5 K c))
def Ke(K:W.Frag)(c:Cls):au:=(aC (aO 3 (cB cY (aD (p7 c) (aj (cV 0) (aj (cC (.int 2)) aq))) (cC (.int 4))))
 (zff K c))
def zv0(K:W.Frag)(c:Cls):au:=(bN (jP Py (aj (dg (bL 1 [0] (iL (cV 1)) (hName 0) gW (cB (rC false) (cV 0) (cV 1)))) aq)))
def zm2(K:W.Frag)(c:Cls):au:=(fP (cT (aD (BJ c) (aj (cV 4) (aj (cV 1) aq))))
 (Ay 3 PL (aj (cV 4) aq))
 cN)
def zhs(K:W.Frag)(c:Cls):au:=(bN (dg (lO (cV 2) (dg (gk (aj (dg (rB Bo (aj (cV 3) aq))) aq))))))
def zow(K:W.Frag)(c:Cls):au:=(aC (jX (cV 0) (hName 4)
 (zm2 K c))
 (zhs K c))
def zn3(K:W.Frag)(c:Cls):au:=(aC (iR 3 (rB Ep (aj (cV 1) aq)))
 (zow K c))
def zli(K:W.Frag)(c:Cls):au:=(aC (aO 2 (dg (bL 1 [1] (iL (cV 0)) (hName 0) (xO (cT (aD (BJ c) (aj (cV 0) (aj (cV 1) aq))))) (cV 0))))
 (zn3 K c))
def zd8(K:W.Frag)(c:Cls):au:=(FP 1 2 3 (cV 4))
def zlg(K:W.Frag)(c:Cls):au:=(aC (fP (FJ 1 (cV 2))
 (FN 1 2 Bg)
 cN)
 (zd8 K c))
def zgy(K:W.Frag)(c:Cls):au:=(pU (nV 1))
def zlx(K:W.Frag)(c:Cls):au:=(aC (jX (cV 0) (iD 3 (aW (hName 2) (aW (hName 3) (aW (hName 4) iC))))
 (zlg K c))
 (zgy K c))
def zjs(K:W.Frag)(c:Cls):au:=(aC (pR 1 Bg)
 (zlx K c))
def zls(K:W.Frag)(c:Cls):au:=(aO 1 (aD (GK c) (aj (cV 1) (aj (dg (rB Rh (aj (cV 2) aq))) aq))))
def zn9(K:W.Frag)(c:Cls):au:=(pU (Yr (rB JM (aj (cV 1) aq))))
def zok(K:W.Frag)(c:Cls):au:=(aC (pQ (Y7 (j7 (Bx c) (aj (cV 0) aq))) (hName 2)
 (zls K c))
 (zn9 K c))
def zlv(K:W.Frag)(c:Cls):au:=(aC (aO 1 (dg (gk aq)))
 (zok K c))
def zib(K:W.Frag)(c:Cls):au:=(aO 1 (cV 2))
def zht(K:W.Frag)(c:Cls):au:=(aC (aO 0 (cV 1))
 (zib K c))
def zkg(K:W.Frag)(c:Cls):au:=(aC (aO 2 (cB cY (cV 0) (cV 1)))
 (zht K c))
def zlz(K:W.Frag)(c:Cls):au:=(bN (jP Aj (aj (cV 0) aq)))
def zjt(K:W.Frag)(c:Cls):au:=(aC (oZ (cT (cB Ah (cV 1) (cC (.int 0))))
 (zkg K c))
 (zlz K c))
def zh7(K:W.Frag)(c:Cls):au:=(aO 1 (cB cJ (cV 1) (cB iU (cB fL (cV 2) (cC (.int 1))) (aD (Bu c) (aj (cV 1) (aj (cB fL (cV 2) (cC (.int 1))) aq))))))
def zix(K:W.Frag)(c:Cls):au:=(bN (dg (bL 1 [1] (iL (cV 0)) (hName 0) gW (cB cJ (cB fL (cV 0) (cC (.int 0))) (cB iU (cV 1) (cB fL (cV 0) (cC (.int 1))))))))
def zi1(K:W.Frag)(c:Cls):au:=(aC (jX (cV 0) (hName 2)
 (zh7 K c))
 (zix K c))
def zgw(K:W.Frag)(c:Cls):au:=(aC (aO 1 (cC (.int 1)))
 (zi1 K c))
def zjj(K:W.Frag)(c:Cls):au:=(bN (dg (bL 2 [0,1,2,3] (EY (aj (cV 0) (aj (cV 1) aq))) (iD 2 (aW (hName 0) (aW (hName 1) iC))) gW (cB iU (cB nu (cB cJ (cB fL (cV 3) (cV 4)) (cV 0)) (cB cJ (cB fL (cV 2) (cV 4)) (cV 1))) (cV 5)))))
def zme(K:W.Frag)(c:Cls):au:=(bN (dg (bL 2 [1,2,3] (Eu (aj (cV 0) aq)) (iD 2 (aW (hName 0) (aW (hName 1) iC))) gW (IK (cT (cB lZ (cV 0) (cV 2))) (cV 1) (aD (Gz c) (aj (cV 1) (aj (cV 4) (aj (cV 2) (aj (cV 3) aq)))))))))
def zjl(K:W.Frag)(c:Cls):au:=(aC (aO 3 (cB fL (cV 0) (cV 1)))
 (zme K c))
def zlf(K:W.Frag)(c:Cls):au:=(bN (jN (aj (cB iU (cV 0) (cV 2)) (aj (cB iU (cV 1) (cV 2)) aq))))
def zj1(K:W.Frag)(c:Cls):au:=(aC (fP (cT (cB Ed (cV 1) (cC (.int 0))))
 (aO 2 (cU rR (cV 2)))
 cN)
 (zlf K c))
def zlc(K:W.Frag)(c:Cls):au:=(aC (aO 2 (aD (Bu c) (aj (cV 0) (aj (cV 1) aq))))
 (zj1 K c))
def zh3(K:W.Frag)(c:Cls):au:=(aC (fP (cT (cB lZ (cV 1) (cC (.int 0))))
 (mO c.bI (aj (cC (.str (Str.ofString "the bottom of a fraction is not 0"))) aq))
 cN)
 (zlc K c))
def zi2(K:W.Frag)(c:Cls):au:=(bN (cV 3))
def zit(K:W.Frag)(c:Cls):au:=(aC (yD 3 (cV 2) (cB fL (cV 0) (cV 1)))
 (zi2 K c))
def ziz(K:W.Frag)(c:Cls):au:=(aC (yD 3 (cV 1) (cB fL (cV 0) (cV 2)))
 (zit K c))
def zgz(K:W.Frag)(c:Cls):au:=(aC (iR 3 (rB Ep (aj (cV 0) aq)))
 (ziz K c))
def zsl(K:W.Frag)(c:Cls):au:=(fP (cT (cB Ah (cB fL (cB fL (cV 0) (cV 2)) (cV 1)) (cC (.int 0))))
 (bN (aD (GD c) (aj (cV 0) (aj (cV 1) (aj (cV 2) aq)))))
 cN)
def zw9(K:W.Frag)(c:Cls):au:=(mO c.dG (aj (cC (.str (Str.ofString "the system has no answer, or several"))) aq))
def zzi(K:W.Frag)(c:Cls):au:=(aC (vP (aj (cV 1) (aj (jP pP (aj (cV 0) aq)) aq)) (hName 2)
 (zsl K c))
 (zw9 K c))
def ziw(K:W.Frag)(c:Cls):au:=(aO 3 (cB fL (cB fL (cV 2) (cV 4)) (cV 4)))
def zl0(K:W.Frag)(c:Cls):au:=(aC (aO 2 (aD (GC c) (aj (aD (GF c) (aj (cV 2) (aj (cV 4) aq))) (aj (cV 4) (aj (cV 3) aq)))))
 (ziw K c))
def zo2(K:W.Frag)(c:Cls):au:=(bN (dg (bL 2 [] (Eu (aj (cV 2) aq)) (iD 2 (aW (hName 0) (aW (hName 1) iC))) gW (aD (wD c) (aj (cB fL (cV 1) (cU rR (cC (.int 1)))) (aj (cB fL (cV 1) (cV 0)) aq))))))
def zn7(K:W.Frag)(c:Cls):au:=(aC (lY (aj (jP pP (aj (cV 2) aq)) aq) (hName 4)
 (zl0 K c))
 (zo2 K c))
def zin(K:W.Frag)(c:Cls):au:=(aC (aO 3 (cC (.int 1)))
 (zn7 K c))
def zmn(K:W.Frag)(c:Cls):au:=(aC (aO 2 (dg (bL 2 [] (EY (aj (cV 0) (aj (cV 1) aq))) (iD 2 (aW (hName 0) (aW (hName 1) iC))) gW (aD (Gy c) (aj (dg (lO (cV 0) (dg (gk (aj (cV 1) aq))))) aq)))))
 (zin K c))
def zet(K:W.Frag)(c:Cls):au:=(bN (dg (bL 1 [0] (iL (cV 1)) (hName 0) (cT (cB (Ga false) (cV 1) (cV 0))) (cV 0))))
def zt9(K:W.Frag)(c:Cls):au:=(bN (aD (wD c) (aj (cB fu (cB cJ (cB fL (cV 0) (cC (.int 0))) (cB fL (cV 1) (cC (.int 1)))) (cB cJ (cB fL (cV 1) (cC (.int 0))) (cB fL (cV 0) (cC (.int 1))))) (aj (cB cJ (cB fL (cV 0) (cC (.int 1))) (cB fL (cV 1) (cC (.int 1)))) aq))))
def zoe(K:W.Frag)(c:Cls):au:=(aO 1 (aD (Bv c) (aj (cV 1) (aj (cV 2) aq))))
def zra(K:W.Frag)(c:Cls):au:=(bN (cV 1))
def zrk(K:W.Frag)(c:Cls):au:=(aC (jX (cV 0) (hName 2)
 (zoe K c))
 (zra K c))
def zpn(K:W.Frag)(c:Cls):au:=(aC (aO 1 (jN (aj (cC (.int 0)) (aj (cC (.int 1)) aq))))
 (zrk K c))
def zjf(K:W.Frag)(c:Cls):au:=(bN (IK (cT (cB lZ (cV 0) (cV 1))) (aD (Bv c) (aj (jN (aj (jP pP (aj (cV 3) aq)) (aj (cC (.int 1)) aq))) (aj (cV 4) aq))) (cV 4)))
def S6(K:W.Frag)(c:Cls):au:=(aC (aO 4 (aD (Bw c) (aj (dg (bL 1 [] (iL (cV 3)) (hName 0) gW (jN (aj (cU rR (cC (.int 1))) (aj (jP JR (aj (cV 0) aq)) aq))))) aq)))
 (zjf K c))
def zpu(K:W.Frag)(c:Cls):au:=(aC (aO 3 (aD (wF c) (aj (cV 1) (aj (aD (wF c) (aj (cV 0) (aj (cV 2) aq))) aq))))
 (S6 K c))
def zmv(K:W.Frag)(c:Cls):au:=(bN (dg (bL 1 [0,2] (iL (cV 1)) (hName 0) gW (aD (GQ c) (aj (cV 1) (aj (cV 0) (aj (cV 2) aq)))))))
def zqb(K:W.Frag)(c:Cls):au:=(bN (aD (wD c) (aj (cB nu (cB cJ (cB fL (cV 0) (cC (.int 0))) (cB fL (cV 1) (cC (.int 1)))) (cB cJ (cB fL (cV 1) (cC (.int 0))) (cB fL (cV 0) (cC (.int 1))))) (aj (cB cJ (cB fL (cV 0) (cC (.int 1))) (cB fL (cV 1) (cC (.int 1)))) aq))))
def zgv(K:W.Frag)(c:Cls):au:=(bN (aD (wD c) (aj (wu (cV 0)) (aj (jP JR (aj (cV 0) aq)) aq))))
def S7(K:W.Frag)(c:Cls):au:=(bN (aD (Bw c) (aj (dg (bL 1 [0] (iL (aD (wF c) (aj (cV 0) (aj (cV 1) aq)))) (hName 0) gW (aD (Gw c) (aj (jN (aj (cB sY (cV 0) (cV 1)) (aj (cC (.int 1)) aq))) (aj (aD (GX c) (aj (cV 0) aq)) aq))))) aq)))
def zce(K:W.Frag)(c:Cls):au:=(bN (aD (GJ c) (aj (dg (lO (dg (gk (aj (cV 4) aq))) (cV 2))) (aj (dg (lO (dg (gk (aj (jN (aj (cC (.int 0)) (aj (cC (.int 1)) aq))) aq))) (cV 3))) aq))))
def zcl(K:W.Frag)(c:Cls):au:=(aC (aO 4 (dg (bL 1 [1] (iL (cV 0)) (hName 0) gW (jN (aj (jP pP (aj (aD (wF c) (aj (cV 0) (aj (cV 1) aq))) aq)) (aj (cC (.int 1)) aq))))))
 (zce K c))
def ze1(K:W.Frag)(c:Cls):au:=(aC (aO 3 (dg (bL 1 [1] (iL (dg (Aw (cV 0) (Av (cC (.int 1))) Ar))) (hName 0) gW (aD (G3 c) (aj (cV 0) (aj (cV 1) aq))))))
 (zcl K c))
def zc3(K:W.Frag)(c:Cls):au:=(aC (aO 2 (dg (bL 1 [0,1] (iL (dg (Aw (cV 0) (Av (cC (.int 1))) Ar))) (hName 0) gW (aD (GR c) (aj (cV 0) (aj (cV 1) (aj (cV 2) aq)))))))
 (ze1 K c))
def zev(K:W.Frag)(c:Cls):au:=(yQ 1 (cV 4) (cV 5))
def zdr(K:W.Frag)(c:Cls):au:=(pQ (EY (aj (cV 2) (aj (aD (G4 c) (aj (cV 2) (aj (cV 3) aq))) aq))) (iD 2 (aW (hName 4) (aW (hName 5) iC)))
 (zev K c))
def zeq(K:W.Frag)(c:Cls):au:=(aC (aO 3 (dg (sZ (aD (vg (Bx c)) (aj (dg (bL 1 [2] (iL (cV 0)) (hName 0) (cT (cB (rC false) (cB fL (cV 0) (cC (.int 1))) (cV 1))) (cV 0))) aq)))))
 (zdr K c))
def zlb(K:W.Frag)(c:Cls):au:=(pU (nV 1))
def zfx(K:W.Frag)(c:Cls):au:=(aC (jX (aD (vg (GP c)) (aj (cV 0) aq)) (hName 2)
 (zeq K c))
 (zlb K c))
def zie(K:W.Frag)(c:Cls):au:=(aC (pR 1 Bg)
 (zfx K c))
def zg5(K:W.Frag)(c:Cls):au:=(fP (cT (cB Ah (dg (bL 1 [5] (iL (cV 6)) (hName 0) (cT (cB (rC false) (cV 0) (cV 1))) (cV 0))) (dg (gk aq))))
 (aO 5 (dg (lO (cV 5) (cV 6))))
 cN)
def zco(K:W.Frag)(c:Cls):au:=(aO 1 (dg (lO (dg (bL 1 [5] (iL (cV 1)) (hName 0) (cT (cB lZ (dg (bL 1 [1] (iL (cV 0)) (hName 0) (cT (cB (rC false) (cV 0) (cV 1))) (cV 0))) (dg (gk aq)))) (cV 0))) (dg (gk (aj (cV 5) aq))))))
def zfi(K:W.Frag)(c:Cls):au:=(aC (jX (cV 1) (hName 6)
 (zg5 K c))
 (zco K c))
def zg7(K:W.Frag)(c:Cls):au:=(aC (aO 5 (dg (lO (dg (gk (aj (cV 3) aq))) (dg (bL 3 [2] (iL (cV 0)) (iD 3 (aW (hName 0) (aW (hName 1) (aW (hName 2) iC)))) (cT (cB lZ (cV 0) (cV 3))) (cV 1))))))
 (zfi K c))
def zh9(K:W.Frag)(c:Cls):au:=(bN (dg (rB JM (aj (dg (bL 1 [] (iL (cV 1)) (hName 0) gW (dg (rB Bo (aj (cV 0) aq))))) aq))))
def zil(K:W.Frag)(c:Cls):au:=(aC (jX (cV 0) (iD 3 (aW (hName 2) (aW (hName 3) (aW (hName 4) iC))))
 (zg7 K c))
 (zh9 K c))
def zfv(K:W.Frag)(c:Cls):au:=(aC (aO 1 (dg (gk aq)))
 (zil K c))
def zgl(K:W.Frag)(c:Cls):au:=(xV 0 1 (aj (cV 1) (aj (cB cY (cV 0) (cV 1)) aq)))
def zg4(K:W.Frag)(c:Cls):au:=(bN (cV 0))
def zg0(K:W.Frag)(c:Cls):au:=(aC (oZ (cT (cB Af (cV 1) (cC (.int 0))))
 (zgl K c))
 (zg4 K c))
def zg2(K:W.Frag)(c:Cls):au:=(aC (aO 1 (jP Aj (aj (cV 1) aq)))
 (zg0 K c))
def zes(K:W.Frag)(c:Cls):au:=(aC (aO 0 (jP Aj (aj (cV 0) aq)))
 (zg2 K c))
def zmp(K:W.Frag)(c:Cls):au:=(bN (jN (aj (cB iU (cV 0) (cV 2)) (aj (cB iU (cV 1) (cV 2)) aq))))
def zm8(K:W.Frag)(c:Cls):au:=(aC (fP (cT (cB Ed (cV 1) (cC (.int 0))))
 (aO 2 (cB nu (cC (.int 0)) (cV 2)))
 cN)
 (zmp K c))
def zjb(K:W.Frag)(c:Cls):au:=(aC (aO 2 (aD (G8 c) (aj (cV 0) (aj (cV 1) aq))))
 (zm8 K c))
def zic(K:W.Frag)(c:Cls):au:=(yQ 4 (cV 8) (aD (G9 c) (aj (cV 9) (aj (cV 10) aq))))
def zea(K:W.Frag)(c:Cls):au:=(aC (fP (cT (cB (rC false) (cV 2) (cV 5)))
 (aC (aO 11 (cB nu (cB cJ (cV 6) (jP yw (aj (cB lZ (cV 8) (cV 2)) aq))) (cV 7)))
 (aC (aO 9 (cB fu (cB cJ (cV 9) (cV 6)) (cB cJ (cB cJ (cV 10) (cV 3)) (cV 11))))
 (aO 10 (cB cJ (cV 10) (cV 6)))))
 cN)
 (zic K c))
def zfr(K:W.Frag)(c:Cls):au:=(aC (xU (cB sY (cV 1) (cV 8)) (iD 2 (aW (hName 9) (aW (hName 10) iC))))
 (zea K c))
def zd3(K:W.Frag)(c:Cls):au:=(jX (cV 5) (hName 8)
 (zfr K c))
def zee(K:W.Frag)(c:Cls):au:=(aC (aO 7 (jP pP (aj (dg (bL 3 [2] (iL (cV 0)) (iD 3 (aW (hName 0) (aW (hName 1) (aW (hName 2) iC)))) (cT (cB lZ (cV 1) (cV 3))) (cV 1))) aq)))
 (zd3 K c))
def zj7(K:W.Frag)(c:Cls):au:=(aC (aO 6 (jP pP (aj (dg (bL 3 [5] (iL (cV 0)) (iD 3 (aW (hName 0) (aW (hName 1) (aW (hName 2) iC)))) (cT (cB (rC false) (cV 1) (cV 3))) (cV 1))) aq)))
 (zee K c))
def zl4(K:W.Frag)(c:Cls):au:=(tu 4 (bN (cV 4)))
def zgt(K:W.Frag)(c:Cls):au:=(aC (jX (aD (G5 c) (aj (cV 0) aq)) (hName 5)
 (zj7 K c))
 (zl4 K c))
def zi6(K:W.Frag)(c:Cls):au:=(aC (pR 4 Bg)
 (zgt K c))
def Kf(K:W.Frag)(c:Cls):au:=(Ay 3 Ax (aj (jN (aj (cV 4) (aj (cV 5) (aj (cB fu (cV 6) (cB cJ (cV 2) (jP yw (aj (cB lZ (cV 5) (cV 1)) aq)))) aq)))) aq))
def zis(K:W.Frag)(c:Cls):au:=(bN (cV 3))
def zi0(K:W.Frag)(c:Cls):au:=(aC (jX (cV 0) (iD 3 (aW (hName 4) (aW (hName 5) (aW (hName 6) iC))))
 (Kf K c))
 (zis K c))
def Kg(K:W.Frag)(c:Cls):au:=(aC (iR 3 (gk aq))
 (zi0 K c))
def zpr(K:W.Frag)(c:Cls):au:=(bN (cB (qH false) (n6 (j7 (za c) (aj (aD (Hf c) (aj (cV 1) (aj (cV 3) (aj (cV 4) aq)))) aq))) (aD (Hg c) (aj (cV 1) (aj (cV 2) (aj (cV 3) (aj (cV 4) aq)))))))
def S8(K:W.Frag)(c:Cls):au:=(aC (aO 4 (cB fu (cC (.int 1)) (cB cY (aD (p7 c) (aj (cV 0) (aj (cC (.int 51)) aq))) (cB uY (cC (.int 10)) (cC (.int 12))))))
 (zpr K c))
def S9(K:W.Frag)(c:Cls):au:=(aC (aO 3 (cB fL (cB fL (cV 1) (cB cY (aD (p7 c) (aj (cV 0) (aj (cC (.int 50)) aq))) (jP pP (aj (cV 1) aq)))) (cC (.int 1))))
 (S8 K c))
def zqc(K:W.Frag)(c:Cls):au:=(aC (fP (cT (cB lZ (cV 1) (dg (gk aq))))
 (bN (cB (qH false) (cV 2) (n6 Bg)))
 cN)
 (S9 K c))
def zqx(K:W.Frag)(c:Cls):au:=(aC (fP (cT (cB (qH true) (n6 (j7 (za c) (aj (dg (yj (cV 1))) aq))) (cV 2)))
 (bN (cC (.bl false)))
 cN)
 (zqc K c))
def zqm(K:W.Frag)(c:Cls):au:=(aC (aO 2 (n6 (j7 (za c) (aj (cV 1) aq))))
 (zqx K c))
def Hh(K:W.Frag)(c:Cls):au:=(aC (aO 1 (aD (G7 c) (aj (cV 0) (aj (cB fu (cC (.int 1)) (cB cY (aD (p7 c) (aj (cV 0) (aj (cC (.int 0)) aq))) (cC (.int 4)))) (aj (cB fu (cC (.int 1)) (cB cY (aD (p7 c) (aj (cV 0) (aj (cC (.int 1)) aq))) (cC (.int 8)))) aq)))))
 (zqm K c))
theorem zsf{c:Cls}{ds P E}(h:Bu c ds P E):ds.length=2:=by obtain⟨_,_,rfl,_⟩:=h;rfl
theorem zrs{c:Cls}{ds P E}(h:wD c ds P E):ds.length=2:=by obtain⟨_,_,rfl,_⟩:=h;rfl
theorem z28{c:Cls}{ds P E}(h:Bv c ds P E):ds.length=2:=by obtain⟨_,_,rfl,_⟩:=h;rfl
theorem zz0{c:Cls}{ds P E}(h:Gw c ds P E):ds.length=2:=by obtain⟨_,_,rfl,_⟩:=h;rfl
abbrev fin(Q:D ->Prop):jV:={nx:=fun _=>Q .non,rt:=Q}
theorem zup{K:W.Frag}{c:Cls}{ds Q Ex}(h:Bu c ds Q Ex):zjt K c (fin Q) (aJ 3 ds) fun _=>Ex:=by
 obtain⟨i,j,rfl,h⟩:=h;refine⟨fun m Γ=>∃a b r,Γ= [.pu (.int a),.pu (.int b),r]/\m=b.natAbs/\Int.gcd a b=Int.gcd i j,⟨_,i,j,.no,rfl,rfl,rfl⟩,?_⟩;rintro m _ ⟨a,b,r,rfl,rfl,hg⟩;refine⟨rfl,?_⟩;by_cases hb:b=0
 ·subst hb;have:(!bR (.int 0) (.int 0))=false:=by simp [bR]
  rw[this];show Q (.int (if a<0 then -a else a));have e:(if a<0 then -a else a)=((Int.gcd i j:Nat):Int):=by
   rw[<- hg,Int.gcd_zero_right];split<;>omega
  rw[e];exact h
 ·have:(!bR (.int b) (.int 0))=true:=by simp [bR,hb]
  rw[this];exact⟨hb,_,RM hb,b,a.fmod b,.pu (.int (a.fmod b)),rfl,rfl,by rw[ZP,hg]⟩
theorem zm7{i j:Int}(hj:j≠0):dv i j≠0/\∀n,bD i<=n ->bD j<=n ->bD (dv i j)<=n:=by
 refine⟨Ge hj,fun n h1 h2=>zN (vR ?_) h2⟩;obtain⟨k,e⟩:=ZQ i j;have h:=congrArg Int.natAbs e;rw[Int.natAbs_mul] at h;rw[h];have:k≠0:=fun z=>hj (by rw[e,z,Int.mul_zero])
 exact Nat.le_mul_of_pos_right _ (by omega)
theorem zrl{K:W.Frag}{c:Cls}{ds Q Ex}(h:wD c ds Q Ex):zh3 K c (fin Q) (aJ 3 ds) fun _=>Ex:=by
 obtain⟨i,j,rfl,b1,b2,h⟩:=h;refine⟨rfl,?_⟩;by_cases hj:j=0
 ·subst hj;have:bR (.int 0) (.int 0)=true:=by simp [bR]
  rw[this];exact⟨by decide,h⟩
 ·have:bR (.int j) (.int 0)=false:=by simp [bR,hj]
  rw[this];rw[if_neg hj,<- ZX hj] at h;refine⟨i,j,rfl,?_⟩;obtain⟨d0,d1⟩:=zm7 (i:=i) hj;show if decide (j<0)=true then _ else _;by_cases hn:j<0
  ·rw[if_pos (by simpa using hn)]
   have e:dv i j= -((Int.gcd i j:Nat):Int):=by unfold dv;rw[if_pos hn]
   exact⟨⟨by rw[<- e];exact d0,by rw[<- e];exact d1 _ b1 b2⟩,⟨by rw[<- e];exact d0,by rw[<- e];exact d1 _ b1 b2⟩,by show(2:Nat)<=sizeLine;decide,by rw[<- e];exact h⟩
  ·rw[if_neg (by simpa using hn)]
   have e:dv i j=((Int.gcd i j:Nat):Int):=by unfold dv;rw[if_neg hn]
   exact⟨⟨by rw[<- e];exact d0,by rw[<- e];exact d1 _ b1 b2⟩,⟨by rw[<- e];exact d0,by rw[<- e];exact d1 _ b1 b2⟩,by show(2:Nat)<=sizeLine;decide,by rw[<- e];exact h⟩
theorem at0{x y:D}:jC [x,y] 0=some x:=uT (j:=0) rfl
theorem at1{x y:D}:jC [x,y] 1=some y:=uT (j:=1) rfl
theorem qK{i j:Int}(h1:bD i<=4000)(h2:bD j<=4000):o7 i j:= .inr (.inr (by omega))
theorem qL{i j:Int}(h1:bD i<=4000)(h2:bD j<=4000):bD (i*j)<=8000:=by have:=vQ i j;omega
theorem Tc{i j:Int}(h1:bD i<=8000)(h2:bD j<=8000):bD (i+j)<=9000:=by have:=Oe i j;omega
theorem Td{i j:Int}(h1:bD i<=8000)(h2:bD j<=8000):bD (i - j)<=9000:=by have:=Wv i j;omega
theorem up9{i:Int}(h1:bD i<=8000):bD i<=9000:=by omega
theorem z3r{K:W.Frag}{c:Cls}{ds Q Ex}(h:Bv c ds Q Ex):zt9 K c (fin Q) (aJ 2 ds) fun _=>Ex:=by
 obtain⟨a,b,rfl,⟨a1,a2⟩,⟨b1,b2⟩,h⟩:=h;refine⟨_,at0,_,at1,qK a1 b2,_,at0,_,at1,qK b1 a2,_,at1,_,at1,qK a2 b2,_,_,rfl,Tc (qL a1 b2) (qL b1 a2),up9 (qL a2 b2),?_⟩;rw[if_neg (ZW a b),<- z35];exact h
theorem z0y{K:W.Frag}{c:Cls}{ds Q Ex}(h:Gw c ds Q Ex):zqb K c (fin Q) (aJ 2 ds) fun _=>Ex:=by
 obtain⟨a,b,rfl,⟨a1,a2⟩,⟨b1,b2⟩,h⟩:=h;refine⟨_,at0,_,at1,qK a1 b2,_,at0,_,at1,qK b1 a2,_,at1,_,at1,qK a2 b2,_,_,rfl,Td (qL a1 b2) (qL b1 a2),up9 (qL a2 b2),?_⟩;rw[if_neg (ZW a b),<- z3g];exact h
theorem z50{n:Nat}(a b:Rat):gP (n+1) (qD a) (qD b):=by
 unfold qD;simp only [gP];intro i x y h1 h2
 match i with
 | 0=>simp at h1 h2;subst h1 h2;cases n<;>simp [gP]
 | 1=>simp at h1 h2;subst h1 h2;cases n<;>simp [gP]
 | i+2=>simp at h1
theorem zvf{n:Nat}(a:List D):gP (n+1) (.lst a) (.lst []):=by
 simp only [gP];intro i x y h1 h2;simp at h2
theorem vp:(1000:Nat)<sizeLine:=by decide
theorem BL{i m:Int}(hm:0<m):0<=i.fmod m/\i.fmod m<m:=by
 rw[Int.fmod_eq_emod_of_nonneg _ (by omega)]
 exact⟨Int.emod_nonneg _ (by omega),Int.emod_lt_of_pos _ hm⟩
theorem Hi(i j:Int):bR (.int i) (.int j)=decide (i=j):=by
 simp only [bR];by_cases h:i=j<;>simp [h]
theorem zc{i:Int}{n:Nat}(h:0<n):∃k:Nat,i.fmod (n:Int)=(k:Int)/\k<n:=by
 have:=BL (i:=i) (m:=(n:Int)) (by omega)
 exact⟨(i.fmod (n:Int)).toNat,by omega,by omega⟩
theorem zrr{c:Cls}{ds P E}(h:p7 c ds P E):ds.length=2:=by obtain⟨_,_,rfl,_⟩:=h;rfl
theorem z5d{c:Cls}{ds P E}(h:J9 c ds P E):ds.length=1:=by obtain⟨_,rfl,_⟩:=h;rfl
theorem zrh{K:W.Frag}{c:Cls}{ds Q Ex}(h:p7 c ds Q Ex):zhv K c (fin Q) (aJ 3 ds) fun _=>Ex:=by
 obtain⟨ns,k,rfl,hl,hk,h⟩:=h;show if decide ((k:Int)< ((ns.map D.int).length:Int))=true then _ else _;rw[List.length_map];by_cases hlt:k<ns.length
 ·rw[if_pos (by simpa using hlt)]
  refine⟨.int ns[k],uT (by simp [hlt]),?_⟩
  unfold eY at h;rw[dif_pos hlt] at h;exact h
 ·rw[if_neg (by simpa using hlt)]
  unfold eY at h;rw[dif_neg hlt] at h;have bk:bD (k:Int)<=10:=gU (by simp only [Int.natAbs_natCast];omega)
  refine⟨.inr (.inl (gU (by decide))),?_⟩
  show if decide ((0:Int)< ((ns.map D.int).length:Int))=true then _ else _;rw[List.length_map];have fin2:∀m:Int,m.natAbs<2^40 ->Q (.int ((m*m).fmod 2147483629)) ->o7 m m/\ (2147483629:Int)≠0/\Q (.int ((m*m).fmod 2147483629)):=fun m hm hq=>
   ⟨.inl (zN (gU hm) (by decide)),by decide,hq⟩
  by_cases he:ns= []
  ·subst he;rw[if_neg (by simp)]
   rw[if_pos rfl] at h;exact fin2 _ (by omega) h
  ·have hp:0<ns.length:=(by cases ns with | nil=>exact absurd rfl he | cons _ _=>exact Nat.succ_pos _)
   rw[if_pos (by simpa using hp)]
   rw[if_neg he] at h;refine⟨.inr (.inl (gU (by decide))),show((ns.map D.int).length:Int)≠0 by rw[List.length_map];omega,?_⟩
   have hm:((k:Int)*7).fmod ((ns.map D.int).length:Int)=((k*7 % ns.length:Nat):Int):=by
    rw[List.length_map,Int.fmod_eq_emod_of_nonneg _ (by omega),Int.natCast_emod,Int.natCast_mul]
    rfl
   and_intros
   rw[hm];have hlt2:k*7 % ns.length<ns.length:=Nat.mod_lt _ hp;refine⟨.int (ns.getD (k*7 % ns.length) 0),uT (by simp [List.getElem?_map,List.getD_eq_getElem?_getD,hlt2]),?_⟩
   refine⟨.inr (.inl (gU (by decide))),.inr (.inl (gU (by decide))),by decide,?_⟩
   refine fin2 _ ?_ h;have h1:=RM (a:=ns.getD (k*7 % ns.length) 0*48271+ (k:Int)*7919) (b:=2147483647) (by decide)
   exact Nat.lt_trans h1 (by decide)
theorem zzw{c:Cls}{ds P E}(h:Bw c ds P E):ds.length=1:=by obtain⟨_,rfl,_⟩:=h;rfl
theorem z1y{K:W.Frag}{c:Cls}{ds Q Ex}(h:Bw c ds Q Ex):zpn K c (fin Q) (aJ 3 ds) fun _=>Ex:=by
 obtain⟨qs,rfl,s1,s2,h⟩:=h;refine⟨by show(2:Nat)<=sizeLine;decide,fun i Γ=>∃x,Γ= [.pu (.lst (qs.map qD)),.pu (qD (dM (qs.take i))),x],⟨_,rfl⟩,?_,?_⟩
 ·rintro i x _ hi ⟨y,rfl⟩;rw[List.getElem?_map] at hi;cases q:qs[i]? with
  | none=>rw[q] at hi;cases hi
  | some a=>
   rw[q] at hi;cases hi;refine⟨_,_,rfl,s2 i,s1 a (yZ q),.pu (qD a),?_⟩;rw[List.take_add_one,q,zn1];simp only [Option.toList_some,dM,Rat.add_zero]
   rfl
 ·rintro _ ⟨y,rfl⟩;have h' :=h;rw[List.length_map,List.take_length];exact h'
theorem Hj{n:Nat}{f:Nat ->D}{i:Nat}(h:i<n):((List.range n).map f)[i]?=some (f i):=by simp [h]
theorem uK{n:Nat}{f:Nat ->D}{i:Nat}(h:i<n):jC ((List.range n).map f) (i:Int)=some (f i):=uT (Hj h)
theorem zsw{n:Nat}(f g:Nat ->D):jQ ((List.range n).map f) ((List.range n).map g)=(List.range n).map fun i=> .tup [f i,g i]:=by
 unfold jQ;apply List.ext_getElem
 ·simp
 ·intro i h1 h2;simp
theorem zyu{n:Nat}(f:Nat ->D):uE 0 ((List.range n).map f)=(List.range n).map fun i=> .tup [.int (i:Nat),f i]:=by
 apply List.ext_getElem?;intro i;rw[Qh];by_cases h:i<n
 ·rw[Hj h,Hj h];simp
 ·simp [h]
theorem zlj{one:D ->(List D ->Prop) ->Prop}{f g:Nat ->D}:∀{is:List Nat} {P:List D ->Prop},(∀i∈is,∀P:List D ->Prop,P [g i] ->one (f i) P) ->P (is.map g) ->aQ one (is.map f) P
 | [],_,_,h=>h
 | i::is,P,k,h=>k i zW _ (zlj (fun y hy=>k y (zV _ hy)) h)
theorem Kh{one:D ->(List D ->Prop) ->Prop}{f g:Nat ->D}{n:Nat}{P:List D ->Prop}(k:∀i,i<n ->∀P:List D ->Prop,P [g i] ->one (f i) P)(h:P ((List.range n).map g)):aQ one ((List.range n).map f) P:=
 zlj (fun i hi=>k i (List.mem_range.mp hi)) h
theorem Te{m:Nat}{f g:Nat ->Int}(h:∀j,j<m ->f j=g j):bW m f=bW m g:=by
 unfold bW
 congr 1
 exact List.map_congr_left fun j hj=>by rw[h j (List.mem_range.mp hj)]
theorem zro{n m:Nat}{a b:Mx}(h:∀i j,i<n ->j<m ->a i j=b i j):gY n m a=gY n m b:=by
 unfold gY
 congr 1
 exact List.map_congr_left fun i hi=>Te fun j hj=>h i j (List.mem_range.mp hi) hj
theorem zoi{c:Cls}{ds P E}(h:Gy c ds P E):ds.length=1:=by obtain⟨_,_,rfl,_⟩:=h;rfl
theorem zo3{c:Cls}{ds P E}(h:GD c ds P E):ds.length=3:=by obtain⟨_,_,_,_,_,rfl,_⟩:=h;rfl
theorem z5b{c:Cls}{ds P E}(h:GF c ds P E):ds.length=2:=by obtain⟨_,_,_,_,rfl,_⟩:=h;rfl
theorem zul{c:Cls}{ds P E}(h:Gz c ds P E):ds.length=4:=by obtain⟨_,_,_,_,_,rfl,_⟩:=h;rfl
theorem zt8{c:Cls}{ds P E}(h:GC c ds P E):ds.length=3:=by obtain⟨_,_,_,_,_,rfl,_⟩:=h;rfl
theorem zv6{c:Cls}{ds P E}(h:GJ c ds P E):ds.length=2:=by obtain⟨_,_,⟨rfl,_⟩,_⟩:=h;rfl
theorem zuj{K:W.Frag}{c:Cls}{ds Q Ex}(h:Gz c ds Q Ex):zjj K c (fin Q) (aJ 4 ds) fun _=>Ex:=by
 obtain⟨m,k,f,g,p,rfl,hk,p0,bp,bf,bg,h⟩:=h;show aQ _ (jQ ((List.range m).map fun j=> .int (f j)) ((List.range m).map fun j=> .int (g j))) _;rw[zsw];refine Kh (g:=fun j=> .int ((g k*f j - f k*g j).fdiv p)) (fun j hj P hP=> ?_) h;have b1:=bg k;have b2:=bf j;have b3:=bf k;have b4:=bg j;exact⟨rfl,rfl,.int (g k),uK hk,.inr (.inr (by omega)),.int (f k),uK hk,.inr (.inr (by omega)),⟨p0,bp⟩,hP⟩
theorem zuh{K:W.Frag}{c:Cls}{ds Q Ex}(h:GC c ds Q Ex):zjl K c (fin Q) (aJ 4 ds) fun _=>Ex:=by
 obtain⟨a,n,m,k,p,rfl,hk,hkm,p0,bp,ba,h⟩:=h;refine⟨bW m (a k),uK hk,?_⟩;show aQ _ (uE 0 ((List.range n).map fun i=>bW m (a i))) _;rw[zyu];refine Kh (g:=fun i=>bW m (qJ k p a i)) (fun i hi P hP=> ?_) h;refine⟨rfl,rfl,rfl,?_⟩;rw[Hi];by_cases e:i=k
 ·subst e;rw[decide_eq_true rfl];have:bW m (qJ i p a i)=bW m (a i):=Te fun j _=>if_pos rfl;rw[this] at hP;exact hP
 ·rw[decide_eq_false (by omega)]
  have:bW m (qJ k p a i)=bW m fun j=>(a k k*a i j - a i k*a k j).fdiv p:=Te fun j _=>if_neg e;rw[this] at hP;exact⟨m,k,a i,a k,p,rfl,hkm,p0,bp,fun j=>ba i j hi,fun j=>ba k j hk,hP⟩
theorem z0g{n:Nat}(f:Nat ->D){k s:Nat}(hk:k<n)(hs:s<n):(((List.range n).map f).set k (f s)).set s (f k)=(List.range n).map fun i=>f (jt k s i):=by
 apply List.ext_getElem
 ·simp
 ·intro i h1 h2;simp only [List.getElem_set,List.getElem_map,List.getElem_range];unfold jt;by_cases e1:s=i
  ·subst e1;by_cases e2:k=s
   ·subst e2;simp
   ·rw[if_pos rfl,if_neg (by omega),if_pos rfl]
  ·rw[if_neg e1];by_cases e2:k=i
   ·subst e2;rw[if_pos rfl,if_pos rfl]
   ·rw[if_neg e2,if_neg (by omega),if_neg (by omega)]
theorem zu2{n k:Nat}(h:k<n):ql n (k:Int)=some k:=by
 unfold ql;rw[if_pos (by omega),if_pos (by omega)];simp
theorem zoo{K:W.Frag}{c:Cls}{ds Q Ex}(h:GD c ds Q Ex):zgz K c (fin Q) (aJ 4 ds) fun _=>Ex:=by
 obtain⟨a,n,m,k,s,rfl,hk,hs,h⟩:=h;refine⟨bW m (a s),uK hs,⟨_,rfl⟩,k,zu2 (by simp [hk]),bW m (a k),uK hk,⟨_,rfl⟩,s,zu2 (by simp [hs]),?_⟩
 have e:=z0g (fun i=>bW m (a i)) hk hs;show Q (.lst ((((List.range n).map fun i=>bW m (a i)).set k (bW m (a s))).set s (bW m (a k))));rw[e];exact h
theorem z46{K:W.Frag}{c:Cls}{ds Q Ex}(h:GF c ds Q Ex):zzi K c (fin Q) (aJ 3 ds) fun _=>Ex:=by
 obtain⟨a,n,m,k,rfl,hn,hk,hm,h1,h2⟩:=h;have el:((List.range n).map fun i=>bW m (a i)).length=n:=by simp
 show((-(2^62):Int)<=(k:Int)/\ (k:Int)<2^62/\ (-(2^62):Int)<=((((List.range n).map fun i=>bW m (a i)).length:Nat):Int)/\ ((((List.range n).map fun i=>bW m (a i)).length:Nat):Int)<2^62)/\rO (k:Int) (((((List.range n).map fun i=>bW m (a i)).length:Nat):Int) - (k:Int)).toNat _ _ _ _ _;rw[el,show((n:Int) - (k:Int)).toNat=n - k by omega]
 refine⟨⟨by omega,by omega,by omega,by omega⟩,fun i Γ=>∃y:Slot,Γ= [.pu (gY n m a),.pu (.int k),y]/\∀s,k<=s ->s<k+i ->a s k=0,⟨_,rfl,fun s hs hs' =>by omega⟩,?_,?_⟩
 ·rintro i _ hi ⟨y,rfl,hz⟩;have e0:(k:Int)+ (i:Int)=((k+i:Nat):Int):=by omega
  have hlt:k+i<n:=by omega
  refine⟨bW m (a (k+i)),?_,.int (a (k+i) k),uK hm,rfl,?_⟩
  ·show jC ((List.range n).map fun i=>bW m (a i)) ((k:Int)+ (i:Int))=_;rw[e0];exact uK hlt
  rw[Hi];by_cases ez:a (k+i) k=0
  ·rw[decide_eq_true ez];refine⟨_,rfl,fun s hs hs' => ?_⟩;by_cases es:s=k+i
   ·rw[es];exact ez
   ·exact hz s hs (by omega)
  ·rw[decide_eq_false ez];refine⟨a,n,m,k,k+i,?_,hk,hlt,h1 _ (by omega) hlt ez⟩
   show [gY n m a,.int k,.int ((k:Int)+ (i:Int))]=_;rw[e0]
 ·rintro _ ⟨y,rfl,hz⟩;exact⟨by show(1:Nat)<=sizeLine;decide,h2 fun s hs hs' =>hz s hs (by omega)⟩
theorem Tf(q:Rat):((q.num:Int):Rat)=q* ((q.den:Int):Rat)/\ ((q.den:Int):Rat)≠0:=by
 have hd:((q.den:Int):Rat)≠0:=by
  have:=q.den_pos
  exact_mod_cast (show(q.den:Int)≠0 by omega)
 have e:((q.num:Int):Rat)/ ((q.den:Int):Rat)=q:=by
  have:=Rat.num_divInt_den q;rw[Rat.divInt_eq_div] at this;exact this
 refine⟨?_,hd⟩;rw[Rat.div_def] at e;have:=congrArg (· * ((q.den:Int):Rat)) e;simp only [Rat.mul_assoc,Rat.inv_mul_cancel _ hd,Rat.mul_one] at this;exact this
theorem zyd{μ d:Int}(hμ:0<μ)(hd:0<d):(Int.gcd μ d:Int)≠0/\0<μ*d.fdiv (Int.gcd μ d:Int)/\μ∣μ*d.fdiv (Int.gcd μ d:Int)/\d∣μ*d.fdiv (Int.gcd μ d:Int)/\ (d.fdiv (Int.gcd μ d:Int)).natAbs<=d.natAbs/\ (Int.gcd μ d:Int).natAbs<=d.natAbs:=by
 have g0:Int.gcd μ d≠0:=fun z=>by have:=(Int.gcd_eq_zero_iff.mp z).2;omega
 have gd:(Int.gcd μ d:Int)∣d:=Int.gcd_dvd_right ..;have gm:(Int.gcd μ d:Int)∣μ:=Int.gcd_dvd_left ..;have e:=Gf gd;obtain⟨u,eu⟩:=gm;have gp:(0:Int)< (Int.gcd μ d:Int):=by omega
 generalize (Int.gcd μ d:Int)=g at*;generalize d.fdiv g=t at*;have tp:0<t:=by
  rcases Int.lt_or_le 0 t with h | h
  ·exact h
  ·have:=Int.mul_nonpos_of_nonneg_of_nonpos (by omega:0<=g) h
   omega
 refine⟨by omega,Int.mul_pos hμ tp,⟨t,rfl⟩,⟨u,?_⟩,?_,?_⟩
 ·rw[eu,<- e];ac_rfl
 ·rw[<- e,Int.natAbs_mul];exact Nat.le_mul_of_pos_left _ (by omega)
 ·rw[<- e,Int.natAbs_mul];exact Nat.le_mul_of_pos_right _ (by omega)
theorem zom{K:W.Frag}{c:Cls}{ds Q Ex}(h:Gy c ds Q Ex):zgw K c (fin Q) (aJ 3 ds) fun _=>Ex:=by
 obtain⟨m,f,rfl,hm,hz,h⟩:=h;refine⟨fun i Γ=>∃(μ:Int) (y:Slot),Γ= [.pu (gB m f),.pu (.int μ),y]/\0<μ/\bD μ<=16*i+1/\∀j,j<i ->j<m ->((f j).den:Int)∣μ,⟨1,_,rfl,by decide,by decide,fun j hj=>by omega⟩,?_,?_⟩
 ·rintro i d _ hi ⟨μ,y,rfl,hμ,bμ,hd⟩;have him:i<m:=by
   have:=(zU.mp hi).1
   simpa using this
  rw[Hj him] at hi;cases hi;have dp:(0:Int)< (f i).den:=by have:=(f i).den_pos;omega
  obtain⟨g0,p1,p2,p3,p4,p5⟩:=zyd hμ dp;have zi:=(hz i him).2;have b4:=zN (vR p4) zi;have b5:=zN (vR p5) zi;have bm:=vQ μ ((f i).den.cast (R:=Int) |>.fdiv (Int.gcd μ (f i).den:Int))
  refine⟨_,at1,_,at1,μ,(f i).den,rfl,⟨g0,by omega⟩,.inr (.inr (by omega)),_,_,rfl,p1,by omega,fun j hj hjm=> ?_⟩
  by_cases e:j=i
  ·subst e;exact p3
  ·exact Int.dvd_trans (hd j (by omega) hjm) p2
 ·rintro _ ⟨μ,y,rfl,hμ,bμ,hd⟩;have el:((List.range m).map fun j=>qD (f j)).length=m:=by simp
  rw[el] at bμ hd
  let g:Nat ->Int:=fun j=>if j<m then(f j).num*μ.fdiv ((f j).den:Int) else 0
  have gv:∀j,j<m ->g j=(f j).num*μ.fdiv ((f j).den:Int):=fun j hj=>by show(if j<m then _ else _)=_;rw[if_pos hj]
  have bt:∀j,j<m ->bD (μ.fdiv ((f j).den:Int))<=bD μ:=fun j hj=>by
   refine vR ?_;have e:=congrArg Int.natAbs (Gf (hd j hj hj));rw[Int.natAbs_mul] at e;rw[<- e];exact Nat.le_mul_of_pos_left _ (by have:=(f j).den_pos;omega)
  show aQ _ ((List.range m).map fun j=>qD (f j)) _;refine Kh (g:=fun j=> .int (g j)) (fun j hj P hP=> ?_) (h μ g hμ (fun j hj=> ?_) fun j=> ?_)
  ·have z:=hz j hj;have b:=bt j hj;refine⟨_,at0,_,at1,⟨by have:=(f j).den_pos;omega,by have:=z.2;omega⟩,.inr (.inr (by have:=z.1;omega)),?_⟩
   show P [.int ((f j).num*μ.fdiv ((f j).den:Int))];rw[<- gv j hj];exact hP
  ·rw[gv j hj];have e:=Gf (hd j hj hj);obtain⟨n1,n2⟩:=Tf (f j);have e' :(μ:Rat)=((f j).den:Int)* (μ.fdiv ((f j).den:Int):Int):=by exact_mod_cast e.symm
   rw[Rat.intCast_mul,n1,e']
   grind
  ·by_cases hj:j<m
   ·rw[gv j hj];have:=vQ (f j).num (μ.fdiv ((f j).den:Int));have:=bt j hj;have:=(hz j hj).1;omega
   ·show bD (if j<m then _ else 0)<=_;rw[if_neg hj];exact Nat.zero_le _
theorem zl6{α:Type}[Inhabited α]{one:D ->(List D ->Prop) ->Prop}{f:Nat ->D}(F:Nat ->α ->D)(Good:Nat ->α ->Prop):∀{n s:Nat} {P:List D ->Prop},(∀i,s<=i ->i<s+n ->∀P:List D ->Prop,(∀a,Good i a ->P [F i a]) ->one (f i) P) ->(∀as:Nat ->α,(∀i,s<=i ->i<s+n ->Good i (as i)) ->P ((List.range' s n).map fun i=>F i (as i))) ->aQ one ((List.range' s n).map f) P
 | 0,s,P,_,h=>h (fun _=>default) fun i h1 h2=>by omega
 | n+1,s,P,k,h=>by
  rw[List.range'_succ];refine k s (by omega) (by omega) _ fun a ha=> ?_
  refine zl6 F Good (fun i h1 h2=>k i (by omega) (by omega)) fun as has=> ?_
  have:=h (fun i=>if i=s then a else as i) fun i h1 h2=>by
   by_cases e:i=s
   ·subst e;simpa using ha
   ·simp only [if_neg e];exact has i (by omega) (by omega)
  rw[List.range'_succ,List.map_cons,if_pos rfl] at this;have e:(List.range' (s+1) n).map (fun i=>F i (if i=s then a else as i))=(List.range' (s+1) n).map fun i=>F i (as i):=List.map_congr_left fun i hi=>by
   have:=List.mem_range'_1.mp hi;rw[if_neg (by omega)]
  rw[e] at this;exact this
theorem zq7{α:Type}[Inhabited α]{one:D ->(List D ->Prop) ->Prop}{f:Nat ->D}(F:Nat ->α ->D)(Good:Nat ->α ->Prop){n:Nat}{P:List D ->Prop}(k:∀i,i<n ->∀P:List D ->Prop,(∀a,Good i a ->P [F i a]) ->one (f i) P)(h:∀as:Nat ->α,(∀i,i<n ->Good i (as i)) ->P ((List.range n).map fun i=>F i (as i))):aQ one ((List.range n).map f) P:=by
 rw[List.range_eq_range'];refine zl6 F Good (fun i _ h2=>k i (by omega)) fun as has=> ?_
 rw[<- List.range_eq_range'];exact h as fun i hi=>has i (by omega) (by omega)
theorem z25{n:Nat}{f:Nat ->D}:jC ((List.range (n+1)).map f) (-1)=some (f n):=by
 have e:ql ((List.range (n+1)).map f).length (-1)=some n:=by
  rw[List.length_map,List.length_range];unfold ql;rw[if_neg (by decide),if_pos (by omega)]
  congr 1;omega
 unfold jC;rw[e];exact Hj (by omega)
theorem Kl{z:Int}{e k:Nat}(h:z.natAbs<=(16*2^e)^k):bD z<=(e+4)*k+1:=by
 refine gU (zK h ?_);rw[show(16:Nat)*2^e=2^ (e+4) by rw[Nat.pow_add,Nat.mul_comm],<- Nat.pow_mul]
 exact Nat.pow_lt_pow_right (by decide) (by omega)
theorem Tg{f g:Nat ->Rat}(t:Rat):∀{m:Nat},(∀j,j<m ->f j=t*g j) ->bx m f=t*bx m g
 | 0,_=>by unfold bx;grind
 | m+1,h=>by unfold bx;rw[Tg t fun j hj=>h j (by omega),h m (by omega)];grind
theorem zxh{K:W.Frag}{c:Cls}{ds Q Ex}(h:GJ c ds Q Ex):zmn K c (fin Q) (aJ 5 ds) fun _=>Ex:=by
 obtain⟨n,A,⟨rfl,hn,hz⟩,hE,hP⟩:=h;have s1:=vp;show aQ _ (jQ ((List.range n).map fun i=>gB n (A i)) ((List.range n).map fun i=>qD (A i n))) _;rw[zsw];refine zq7 (α:=Nat ->Int) (fun _ g=>bW (n+1) g) (fun i g=>(∀j,bD (g j)<=640)/\∃μ:Int,0<μ/\∀j,j<n+1 ->(g j:Rat)=(μ:Rat)*A i j) (fun i hi P hP=> ?_) (fun as has=> ?_)
 ·refine⟨rfl,rfl,by show(1:Nat)<=sizeLine;decide,?_,n+1,A i,?_,by omega,fun j hj=>hz i j hi (by omega),fun μ g h0 h1 h2=>hP g ⟨h2,μ,h0,h1⟩⟩
  ·show((List.range n).map fun j=>qD (A i j)).length+1<=sizeLine;simp only [List.length_map,List.length_range];omega
  ·show [D.lst (((List.range n).map fun j=>qD (A i j))++ [qD (A i n)])]= [gB (n+1) (A i)];unfold gB;rw[List.range_succ,List.map_append];rfl
 change zin K c (fin Q) [.pu (tH n n A),.pu (gB n fun i=>A i n),.pu (gY n (n+1) as),.no,.no] fun _=>Ex
 have ba:∀k,k<n ->∀j,(as k j).natAbs<=2^640:=fun k hk j=>Nat.le_of_lt (xW ((has k hk).1 j));have hμ:∃μ:Nat ->Rat,∀i,i<n ->μ i≠0/\∀j,j<n+1 ->(as i j:Rat)=μ i*A i j:=by
  refine⟨fun i=>if h:i<n then((has i h).2.choose:Int) else 1,fun i hi=> ?_⟩;simp only [dif_pos hi];have sp:=(has i hi).2.choose_spec;refine⟨?_,fun j hj=>sp.2 j hj⟩;have:=sp.1;intro z;have:(has i hi).2.choose=0:=by exact_mod_cast z
  omega
 obtain⟨μ,hμ⟩:=hμ;have el:((List.range n).map fun i=>bW (n+1) (as i)).length=n:=by simp
 show((-(2^62):Int)<=((((List.range n).map fun i=>bW (n+1) (as i)).length:Nat):Int)/\_)/\rO 0 (Int.toNat ((((List.range n).map fun i=>bW (n+1) (as i)).length:Nat):Int)) _ _ _ _ _;rw[el,Int.toNat_natCast];have mx:∀k,k<=13 ->(640+4)*k+1<=8500:=fun k hk=>by omega
 have h1:1<=16*2^640:=Nat.mul_pos (by decide) (Nat.pow_pos (by decide))
 refine⟨⟨by omega,by omega⟩,fun k Γ=>∃(d:Int) (tb:Mx) (rs:List Row) (fs:Nat ->Row) (ix:Nat ->Nat) (y:Slot),Γ= [.pu (tH n n A),.pu (gB n fun i=>A i n),.pu (gY n (n+1) tb),.pu (.int d),y]/\BT n as k d tb rs fs ix,⟨1,as,_,_,_,_,rfl,zxt n as⟩,?_,?_⟩
 ·rintro k _ hk ⟨d,tb,rs,fs,ix,y,rfl,bt⟩;have e0:(0+ (k:Int))=((k:Nat):Int):=by omega
  have bd:bD d<=8500:=zN (Kl (bt.lead (N:=16) ba (by omega))) (mx k (by omega))
  have be:∀i j,i<n ->bD (tb i j)<=8500:=fun i j hi=>zN (Kl (bt.small (N:=16) ba (by omega) h1 hi j)) (mx (k+1) (by omega))
  refine⟨tb,n,n+1,k,?_,by omega,hk,by omega,fun s hs hsn hne=> ?_,fun hall=> ?_⟩
  ·show [gY n (n+1) tb,.int (0+ (k:Int))]=_;rw[e0]
  ·obtain⟨rs',fs',yS,bt'⟩:=bt.step hs hsn hne;have sk:jt k s k=s:=by unfold jt;rw[if_pos rfl]
   have et:gY n (n+1) (qJ k d (Gx k s tb))=gY n (n+1) (nextT k s d tb):=zro fun i j _ _=>by
    unfold qJ Gx nextT;rw[sk]
   refine⟨Gx k s tb,n,n+1,k,d,?_,hk,by omega,bt.nz,zN bd (by decide),fun i j hi=>zN (be (jt k s i) j ?_) (by decide),?_⟩
   ·show [_,D.int (0+ (k:Int)),_]=_;rw[e0]
   ·unfold jt;split
    ·exact hsn
    ·split<;>omega
   ·rw[et];refine⟨bW (n+1) (nextT k s d tb k),?_,.int (nextT k s d tb k k),?_,tb s k,nextT k s d tb,rs',fs',yS,.pu (.int (0+ (k:Int))),?_,bt'⟩
    ·show jC ((List.range n).map fun i=>bW (n+1) (nextT k s d tb i)) (0+ (k:Int))=_;rw[e0];exact uK hk
    ·show jC ((List.range (n+1)).map fun j=>D.int (nextT k s d tb k j)) (0+ (k:Int))=_;rw[e0];exact uK (by omega)
    ·have:nextT k s d tb k k=tb s k:=by unfold nextT;rw[if_pos rfl]
     rw[this];rfl
  ·obtain⟨x,x1,hx⟩:=bt.stuck hk hall;refine hE x k hk x1 fun r hr=> ?_;have q:=hx r hr;rw[Tg (g:=fun j=>A r j*x j) (μ r) fun j hj=>by
    show(as r j:Rat)*x j=_;rw[(hμ r hr).2 j (by omega)];grind] at q
   rcases Rat.mul_eq_zero.mp q with q | q
   ·exact absurd q (hμ r hr).1
   ·exact q
 ·rintro _ ⟨d,tb,rs,fs,ix,y,rfl,bt⟩;have d0:(d:Rat)≠0:=fun z=>bt.nz (by exact_mod_cast z)
  have bd:bD d<=8500:=zN (Kl (bt.lead (N:=16) ba (by omega))) (mx n (by omega))
  have be:∀i j,i<n ->bD (tb i j)<=8500:=fun i j hi=>zN (Kl (bt.small (N:=16) ba (by omega) h1 hi j)) (mx (n+1) (by omega))
  have ex:∀i,i<n ->fs i n=(tb i n:Rat)/ (d:Rat):=fun i hi=>by
   rw[bt.t i hi n,Rat.div_def,Rat.mul_comm,<- Rat.mul_assoc,Rat.inv_mul_cancel _ d0,Rat.one_mul]
  have hs:Slv n A fun i=>fs i n:=fun r hr=>by
   have q:=bt.sol hr n;have q' :(as r n:Rat)=bx n fun c=>(as r c:Rat)*fs c n:=q;rw[Tg (g:=fun j=>A r j*fs j n) (μ r) fun j hj=>by rw[(hμ r hr).2 j (by omega)];grind,(hμ r hr).2 n (by omega)] at q'
   have m0:=(hμ r hr).1;have:=congrArg (fun z=>(μ r)⁻¹*z) q';simp only [<- Rat.mul_assoc,Rat.inv_mul_cancel _ m0,Rat.one_mul] at this;exact this
  show aQ _ (uE 0 ((List.range n).map fun i=>bW (n+1) (tb i))) _;rw[zyu];refine Kh (g:=fun i=>qD (fs i n)) (fun i hi P hp=> ?_) (hP _ hs fun i hi=>by rw[ex i hi];exact z36 bt.nz (be i n hi) bd)
  refine⟨rfl,rfl,.int (tb i n),z25,.int (tb i i),uK (by omega),tb i n,tb i i,rfl,zN (be i n hi) (by decide),zN (be i i hi) (by decide),?_⟩
  rw[bt.diag hi hi,if_neg bt.nz,<- ex i hi];exact hp
abbrev tK(Q:T ->Prop):jV:={nx:=fun _=>False,rt:=fun _=>False,rT:=Q}
theorem zf(x y:Str):bR (.str x) (.str y)=decide (x=y):=by
 simp only [bR];by_cases h:x=y<;>simp [h]
theorem BP{x:Str}:∀{g:List Str},inD (.str x) (g.map .str)=decide (x∈g)
 | []=>by simp [inD]
 | y::g=>by
  have ih:=BP (x:=x) (g:=g);unfold inD at ih⊢;rw[List.map_cons,List.any_cons,ih];by_cases h:y=x
  ·subst h;simp [Jr]
  ·have h' :¬x=y:=fun z=>h z.symm;simp [Jr,h,h']
theorem Hl(g:List Str):(g.map D.str).all sE=true:=by
 rw[List.all_map];exact List.all_eq_true.mpr fun _ _=>rfl
theorem zjo{α:Type}(f:α ->Bool):∀l:List α,nP (l.map fun x=> .bl (f x))=some (l.map f)
 | []=>rfl
 | a::l=>by simp [nP,zjo f l]
theorem wG{α:Type}{one:D ->(List D ->Prop) ->Prop}(f:α ->D)(g:α ->D):∀{l:List α} {P:List D ->Prop},(∀a∈l,∀P,P [g a] ->one (f a) P) ->P (l.map g) ->aQ one (l.map f) P
 | [],_,_,h=>h
 | a::l,P,k,h=>k a zW _ (wG f g (fun b hb=>k b (zV _ hb)) h)
theorem vq{α:Type}{one:D ->(List D ->Prop) ->Prop}(f g:α ->D)(p:α ->Bool):∀{l:List α} {P:List D ->Prop},(∀a∈l,∀P,P (if p a=true then [g a] else []) ->one (f a) P) ->P ((l.filter p).map g) ->aQ one (l.map f) P
 | [],_,_,h=>h
 | a::l,P,k,h=>k a zW _ (vq f g p (fun b hb=>k b (zV _ hb)) (by
   rw[List.filter_cons] at h;by_cases q:p a=true
   ·rw[if_pos q] at h⊢;exact h
   ·rw[if_neg q] at h⊢;exact h))
theorem z3j{K:W.Frag}{c:Cls}{ds Q Ex}(h:BJ c ds Q Ex):zv0 K c (fin Q) (aJ 2 ds) fun _=>Ex:=by
 obtain⟨g,hs,rfl,h⟩:=h;show aQ _ (hs.map D.str) _;refine wG D.str (fun x=> .bl (decide (x∈g))) (fun x hx P hp=> ?_) ?_
 ·refine⟨rfl,Hl g,?_⟩;show P [.bl (if false then _ else inD (.str x) (g.map .str))];rw[BP];exact hp
 ·refine⟨_,zjo _ hs,?_⟩;have e:(hs.map fun x=>decide (x∈g)).any id=aF g hs:=by rw[List.any_map];rfl
  rw[e];exact h
def iZ(hs:List Str)(h:Str):List Str:=if h∈hs then hs else hs++ [h]
theorem zxx{hs:List Str}{h x:Str}:x∈iZ hs h↔x∈hs\/x=h:=by
 unfold iZ;split
 ·exact⟨.inl,fun q=>by rcases q with q | rfl;exact q;assumption⟩
 ·rw[List.mem_append,List.mem_singleton]
theorem zrp{hs:List Str}{h:Str}(nd:hs.Nodup):(iZ hs h).Nodup:=by
 unfold iZ;split
 ·exact nd
 ·rename_i q;rw[List.nodup_append];exact⟨nd,by simp,fun a ha b hb e=>q (by rw[List.mem_singleton.mp hb] at e;exact e ▸ ha)⟩
theorem zx3{hs:List Str}{h:Str}:(iZ hs h).length<=hs.length+1:=by
 unfold iZ;split
 ·omega
 ·simp
theorem qb{α β:Type}{x:β}{l:List β}:(Sum.inr x:Sum α β)∈l.map Sum.inr↔x∈l:=by
 rw[List.mem_map];exact⟨fun⟨y,h,e⟩=>by injection e with e;exact e ▸ h,fun h=>⟨x,h,rfl⟩⟩
theorem zj{hs:List Str}{h:Str}:iW (hs.map .inr) (.inr h)=decide (h∈hs):=by
 by_cases q:h∈hs
 ·rw[decide_eq_true q];exact j8.mpr (qb.mpr q)
 ·rw[decide_eq_false q];cases z:iW (hs.map Sum.inr) (Sum.inr h:Key) with
  | false=>rfl
  | true=>exact absurd (qb.mp (j8.mp z)) q
theorem zmo{hs:List Str}{h:Str}:eF (hs.map .inr) (.inr h)=(iZ hs h).map .inr:=by
 unfold eF iZ;rw[zj];by_cases q:h∈hs
 ·rw[decide_eq_true q,if_pos rfl,if_pos q]
 ·rw[decide_eq_false q,if_neg (by decide),if_neg q,List.map_append];rfl
theorem zvm{hs:List Str}{xs:List D}{h:Str}{d:D}(e:hs.length=xs.length):(iZ hs h).length=(bZ (hs.map .inr) xs (.inr h) d).length:=by
 unfold bZ iZ;rw[zj];by_cases q:h∈hs
 ·rw[decide_eq_true q,if_pos rfl,if_pos q,List.length_zipWith,List.length_map,e,Nat.min_self]
 ·rw[decide_eq_false q,if_neg q,if_neg Bool.false_ne_true];simp [e]
structure BR (rows:List Rw) (n:Nat) (ws:List Str) (ps:List (List Str×List D)):Prop where
 len:ws.length=ps.length
 nd:ws.Nodup
 lw:ws.length<=n
 pt:∀(q:Nat) w p,ws[q]?=some w ->ps[q]?=some p ->p.1.length=p.2.length/\p.1.Nodup/\p.1.length<=rows.length/\∀h,h∈p.1↔h∈eO rows w
 ex:Uq rows ->∀(q:Nat) w p,ws[q]?=some w ->ps[q]?=some p ->p=(kW rows w,(bH rows w).map fun r=> .int r.2.2)
theorem Ti{rows:List Rw}{r:Rw}{w:Str}:bH (rows++ [r]) w=bH rows w++ (if r.1=w then [r] else []):=by
 unfold bH;rw[List.filter_append]
 congr 1
 by_cases q:r.1=w<;>simp [q]
theorem zvt{rows:List Rw}{r:Rw}{w:Str}:kW (rows++ [r]) w=kW rows w++ (if r.1=w then [r.2.1] else []):=by
 unfold kW;rw[Ti,List.map_append]
 congr 1
 by_cases q:r.1=w<;>simp [q]
theorem zw7{rows:List Rw}{w:Str}(h:¬∃r∈rows,r.1=w):bH rows w= []:=by
 unfold bH;exact List.filter_eq_nil_iff.mpr fun r hr z=>h ⟨r,hr,of_decide_eq_true z⟩
theorem zm4{rows:List Rw}{r:Rw}{w:Str}:eO (rows++ [r]) w=eO rows w++ (if r.1=w then [r.2.1] else []):=by
 unfold eO;rw[List.filter_append,List.map_append]
 congr 1
 by_cases q:r.1=w<;>simp [q]
theorem aU{rows:List Rw}{w h:Str}:h∈eO rows w↔∃r∈rows,r.1=w/\r.2.1=h:=by
 unfold eO;rw[List.mem_map];constructor
 ·rintro⟨r,hr,e⟩;obtain⟨h1,h2⟩:=zB.mp hr;exact⟨r,h1,of_decide_eq_true h2,e⟩
 ·rintro⟨r,h1,h2,e⟩;exact⟨r,zB.mpr ⟨h1,decide_eq_true h2⟩,e⟩
theorem BR.new{rows:List Rw}{ws:List Str}{ps:List (List Str×List D)}{w:Str}(B:yU rows ws ps)(hw:w∉ws):BR rows (rows.length+1) (ws++ [w]) (ps++ [([],[])]):=by
 refine⟨by simp [B.len],?_,by simpa using B.lw,fun q v p h1 h2=> ?_,fun u q v p h1 h2=> ?_⟩
 ·rw[List.nodup_append];exact⟨B.nd,by simp,fun a ha b hb e=>hw (by rw[List.mem_singleton.mp hb] at e;exact e ▸ ha)⟩
 ·by_cases hq:q<ws.length
  ·rw[List.getElem?_append_left hq] at h1;rw[List.getElem?_append_left (by rw[<- B.len];exact hq)] at h2
   exact B.pt q v p h1 h2
  ·have hl:q< (ws++ [w]).length:=(zU.mp h1).1;rw[List.length_append,List.length_singleton] at hl;have hq' :q=ws.length:=by omega
   subst hq';rw[List.getElem?_append_right (Nat.le_refl _)] at h1;rw[List.getElem?_append_right (by rw[B.len];exact Nat.le_refl _)] at h2
   simp at h1;simp [B.len] at h2;subst h1 h2;refine⟨rfl,by simp,Nat.zero_le _,fun h=>⟨fun z=>by(cases z),fun z=> ?_⟩⟩
   obtain⟨r,hr,e,_⟩:=aU.mp z;exact absurd ((B.wm w).mpr ⟨r,hr,e⟩) hw
 ·by_cases hq:q<ws.length
  ·rw[List.getElem?_append_left hq] at h1;rw[List.getElem?_append_left (by rw[<- B.len];exact hq)] at h2
   exact B.ex u q v p h1 h2
  ·have hl:q< (ws++ [w]).length:=(zU.mp h1).1;rw[List.length_append,List.length_singleton] at hl;have hq' :q=ws.length:=by omega
   subst hq';rw[List.getElem?_append_right (Nat.le_refl _)] at h1;rw[List.getElem?_append_right (by rw[B.len];exact Nat.le_refl _)] at h2
   simp at h1;simp [B.len] at h2;subst h1 h2;have:=zw7 (rows:=rows) (w:=w) fun⟨r,hr,e⟩=>hw ((B.wm w).mpr ⟨r,hr,e⟩);unfold kW;rw[this];rfl
theorem Km{ws:List Str}(nd:ws.Nodup){i j:Nat}(hi:i<ws.length)(hj:j<ws.length)(e:ws[i]=ws[j]):i=j:=by
 have key:=List.pairwise_iff_getElem.mp nd;rcases Nat.lt_trichotomy i j with q | q | q
 ·exact absurd e (key i j hi hj q)
 ·exact q
 ·exact absurd e.symm (key j i hj hi q)
theorem BR.put{rows:List Rw}{ws:List Str}{ps:List (List Str×List D)}{r:Rw}{q:Nat}{p:List Str×List D}(B:BR rows (rows.length+1) ws ps)(wm:∀v,v∈ws↔ (∃r∈rows,r.1=v)\/v=r.1)(h1:ws[q]?=some r.1)(h2:ps[q]?=some p)(d:D)(hd:d= .int r.2.2):
  yU (rows++ [r]) ws (ps.set q (iZ p.1 r.2.1,bZ (p.1.map .inr) p.2 (.inr r.2.1) d)):=by
 obtain⟨b1,b2,b3,b4⟩:=B.pt q r.1 p h1 h2;have hq:q<ps.length:=(zU.mp h2).1;refine⟨by rw[List.length_set];exact B.len,B.nd,by simpa using B.lw,fun v=> ?_,fun q' v p' e1 e2=> ?_,fun u q' v p' e1 e2=> ?_⟩
 ·rw[wm v];constructor
  ·rintro(⟨r',h,e⟩ | e)
   ·exact⟨r',zO _ h,e⟩
   ·exact⟨r,by simp,e.symm⟩
  ·rintro⟨r',h,e⟩;rcases zR.mp h with h | h
   ·exact .inl ⟨r',h,e⟩
   ·rw[List.mem_singleton.mp h] at e;exact .inr e.symm
 ·by_cases rP:q=q'
  ·subst rP;rw[h1] at e1;cases e1;rw[List.getElem?_set_self hq] at e2;cases e2;refine⟨zvm b1,zrp b2,zN zx3 (by simpa using b3),fun h=> ?_⟩
   show h∈iZ p.1 r.2.1↔_;rw[zxx,zm4,if_pos rfl,List.mem_append,b4 h,List.mem_singleton]
  ·rw[List.getElem?_set_ne rP] at e2;obtain⟨c1,c2,c3,c4⟩:=B.pt q' v p' e1 e2;have hv:¬r.1=v:=fun z=>by
    have l1:=(zU.mp h1);have l2:=(zU.mp e1);obtain⟨l1,l1'⟩:=l1;obtain⟨l2,Tj⟩:=l2;exact rP (Km B.nd l1 l2 (by rw[l1',Tj,z]))
   refine⟨c1,c2,by simpa using Nat.le_succ_of_le c3,fun h=> ?_⟩
   rw[c4 h,zm4,if_neg hv,List.append_nil]
 ·have u0:Uq rows:=(List.pairwise_append.mp u).1;by_cases rP:q=q'
  ·subst rP;rw[h1] at e1;cases e1;rw[List.getElem?_set_self hq] at e2;cases e2;have ep:=B.ex u0 q r.1 p h1 h2;have hn:r.2.1∉p.1:=fun z=>by
    rw[ep] at z;obtain⟨r',hr',g1,g2⟩:=eN.mp z;exact(List.pairwise_append.mp u).2.2 r' hr' r (by simp) ⟨g1,g2⟩
   rw[zvt,Ti,if_pos rfl,if_pos rfl];unfold iZ bZ;rw[if_neg hn,zj,decide_eq_false hn,if_neg Bool.false_ne_true,ep,hd,List.map_append]
   rfl
  ·rw[List.getElem?_set_ne rP] at e2;have hv:¬r.1=v:=fun z=>by
    have l1:=(zU.mp h1);have l2:=(zU.mp e1);obtain⟨l1,l1'⟩:=l1;obtain⟨l2,Tj⟩:=l2;exact rP (Km B.nd l1 l2 (by rw[l1',Tj,z]))
   rw[zvt,Ti,if_neg hv,if_neg hv,List.append_nil,List.append_nil];exact B.ex u0 q' v p' e1 e2
theorem zf1{ws:List Str}(nd:ws.Nodup):(ws.map (Sum.inr:Str ->Key)).Nodup:=by
 unfold List.Nodup;rw[List.pairwise_map];exact nd.imp fun h z=>h (by injection z)
theorem zu0{K:W.Frag}{c:Cls}{ds Q Ex}(h:Bx c ds Q Ex):zjs K c (tK Q) (aJ 5 ds) fun _=>Ex:=by
 obtain⟨rows,rfl,hl,h⟩:=h;have s1:=vp;intro as;refine⟨fun i Γ=>∃as ws ps x y z,yU (rows.take i) ws ps/\Γ= [.pu (aK rows),.tr as (.dic (ws.map .inr) (ps.map p8)),x,y,z],?_,?_,?_⟩
 ·exact⟨as,[],[],_,_,_,⟨rfl,by simp,by simp,fun w=>⟨fun z=>by(cases z),fun⟨r,hr,_⟩=>by(simp at hr)⟩,fun q w p e=>(by simp at e),fun _ q w p e=>by simp at e⟩,rfl⟩
 ·rintro i d _ hi ⟨as,ws,ps,x,y,z,B,rfl⟩;have hi' :i<rows.length:=by
   have:=(zU.mp hi).1
   rwa [List.length_map] at this
  rw[List.getElem?_map,List.getElem?_eq_getElem hi'] at hi;cases hi;have tk:rows.take (i+1)=rows.take i++ [rows[i]]:=by rw[List.take_add_one,List.getElem?_eq_getElem hi'];rfl
  have hlt:(rows.take i).length=i:=by rw[List.length_take];omega
  have fin:∀as ws ps,BR (rows.take i) ((rows.take i).length+1) ws ps ->(∀v,v∈ws↔ (∃r∈rows.take i,r.1=v)\/v=rows[i].1) ->
    zd8 K c {nx:=fun Γ=>∃as ws ps x y z,yU (rows.take (i+1)) ws ps/\Γ= [.pu (aK rows),.tr as (.dic (ws.map .inr) (ps.map p8)),x,y,z],ct:=fun Γ=>∃as ws ps x y z,yU (rows.take (i+1)) ws ps/\Γ= [.pu (aK rows),.tr as (.dic (ws.map .inr) (ps.map p8)),x,y,z],bk:=fun Γ=>zgy K c (tK Q) Γ fun _=>Ex,rt:=fun _=>False,rT:=Q}
     [.pu (aK rows),.tr as (.dic (ws.map .inr) (ps.map p8)),.pu (.str rows[i].1),.pu (.str rows[i].2.1),.pu (.int rows[i].2.2)] fun _=>Ex:=by
   intro as ws ps B wm;have hm:rows[i].1∈ws:=(wm _).mpr (.inr rfl);obtain⟨q,hq,eq⟩:=List.mem_iff_getElem.mp hm;have hq2:q<ps.length:=by rw[<- B.len];exact hq
   have e1:ws[q]?=some rows[i].1:=by rw[List.getElem?_eq_getElem hq,eq]
   have e2:ps[q]?=some ps[q]:=zX hq2;obtain⟨b1,b2,b3,b4⟩:=B.pt q _ _ e1 e2;have BW:=B.put wm e1 e2 (.int rows[i].2.2) rfl;rw[<- tk] at BW;refine⟨.inr rows[i].1,.inr rows[i].2.1,as,ws.map .inr,ps.map p8,q,ps[q].1.map .inr,ps[q].2,rfl,rfl,rfl,zf1 B.nd,by rw[List.getElem?_map,e1];rfl,by rw[List.getElem?_map,e2];rfl,by rw[List.length_map];omega,?_⟩
   refine⟨as,ws,_,.pu (.str rows[i].1),.pu (.str rows[i].2.1),.pu (.int rows[i].2.2),BW,?_⟩;rw[zmo,List.map_set]
   rfl
  refine⟨rfl,rfl,.inr rows[i].1,as,ws.map .inr,ps.map p8,rfl,rfl,?_⟩;rw[zj];by_cases hw:rows[i].1∈ws
  ·rw[decide_eq_true hw];refine fin as ws ps ⟨B.len,B.nd,Nat.le_succ_of_le B.lw,B.pt,B.ex⟩ fun v=> ?_;rw[B.wm v];exact⟨.inl,fun z=>by rcases z with z | rfl;exact z;exact(B.wm _).mp hw⟩
  ·rw[decide_eq_false hw];refine⟨.inr rows[i].1,as,ws.map .inr,ps.map p8,rfl,rfl,by rw[zj,decide_eq_false hw],by rw[List.length_map];have:=B.lw;omega,fun cs=> ?_⟩
   have:=fin (as++cs) (ws++ [rows[i].1]) (ps++ [([],[])]) (BR.new B hw) fun v=>by
    rw[List.mem_append,B.wm v,List.mem_singleton]
   rw[List.map_append,List.map_append] at this;exact this
 ·rintro _ ⟨as,ws,ps,x,y,z,B,rfl⟩;have e:rows.take (rows.map jw).length=rows:=by rw[List.length_map,List.take_length]
  rw[e] at B;exact h ws ps B
theorem znl:∀xs:List Str,j9 (xs.map .str)=some xs
 | []=>rfl
 | x::xs=>by rw[List.map_cons];unfold j9;rw[znl xs];rfl
theorem z1k{xs U:List Str}(h:∀x∈xs,x∈U):(jr xs).length<=U.length:=wz (YW xs) fun x hx=>h x (nU.mp hx)
theorem zsy{xs U:List Str}{P:List D ->Prop}(h1:xs.length<4095)(h2:U.length<60)(h3:∀x∈xs,x∈U)(h:∀ms:List Str,ms.Pairwise (fun a b=>gh a b=true) ->(∀i,i∈ms↔i∈xs) ->P (ms.map .str)):Bo [gl xs] P:=
 ⟨xs,znl xs,h1,zK (z1k h3) (by omega),h⟩
theorem Ko{p:List Str ->Bool}:∀fs:List (List Str),(fs.filter p).flatten.length<=fs.flatten.length
 | []=>by simp
 | f::fs=>by
  have:=Ko (p:=p) fs;rw[List.filter_cons];split<;>simp only [List.flatten_cons,List.length_append]<;>omega
theorem zgp(fs:List (List Str))(i:Nat):(fs.take i).flatten.length<=fs.flatten.length:=by
 conv=>rhs;rw[<- List.take_append_drop i fs,List.flatten_append,List.length_append]
 omega
theorem zya{K:W.Frag}{c:Cls}{ds Q Ex}(h:GK c ds Q Ex):zli K c (fin Q) (aJ 5 ds) fun _=>Ex:=by
 obtain⟨fs,hs,U,rfl,hl,hfl,hU,u1,u2,h⟩:=h;have line:(8000:Nat)<=sizeLine:=by decide
 show aQ _ (fs.map gl) _;refine vq gl gl (fun f=> !aF f hs) (fun f hf P hp=> ?_) ?_
 ·refine⟨f,hs,rfl,?_⟩;show if (!aF f hs)=true then P [gl f] else P [];by_cases q:(!aF f hs)=true
  ·rw[if_pos q] at hp⊢;exact hp
  ·rw[if_neg q] at hp⊢;exact hp
 ·refine⟨fun i Γ=>∃x,Γ= [.pu (.lst (fs.map gl)),.pu (gl hs),.pu (.lst ((fs.filter fun f=> !aF f hs).map gl)),.ow ((hs++ ((fs.take i).filter fun f=>aF f hs).flatten).map .str),x],⟨.no,by simp [gl];rfl⟩,?_,?_⟩
  ·rintro i d _ hi ⟨x,rfl⟩;have hi' :i<fs.length:=by
    have:=(zU.mp hi).1
    rwa [List.length_map] at this
   rw[List.getElem?_map,List.getElem?_eq_getElem hi'] at hi;cases hi;have tk:fs.take (i+1)=fs.take i++ [fs[i]]:=by rw[List.take_add_one,List.getElem?_eq_getElem hi'];rfl
   refine⟨fs[i],hs,rfl,?_⟩;show if aF fs[i] hs=true then _ else _;by_cases q:aF fs[i] hs=true
   ·rw[if_pos q];refine⟨⟨_,rfl⟩,?_,.pu (gl fs[i]),?_⟩
    ·have h1:=Ko (p:=fun f=>aF f hs) (fs.take (i+1));have h2:=zgp fs (i+1);rw[tk,List.filter_append,List.flatten_append,List.length_append] at h1;simp only [List.filter_cons,q,if_true,List.filter_nil,List.flatten_cons,List.flatten_nil,List.append_nil] at h1;rw[tk] at h2;rw[List.length_map,List.length_append,List.length_map];omega
    ·rw[tk,List.filter_append,List.flatten_append];simp only [List.filter_cons,q,if_true,List.filter_nil,List.flatten_cons,List.flatten_nil,List.append_nil];rw[<- List.append_assoc,List.map_append (l₂:=fs[i])]
     rfl
   ·rw[if_neg q];refine⟨.pu (gl fs[i]),?_⟩;rw[tk,List.filter_append,List.flatten_append];simp only [List.filter_cons,q,Bool.false_eq_true,if_false,List.filter_nil,List.flatten_nil,List.append_nil]
    rfl
  ·rintro _ ⟨x,rfl⟩;have e:fs.take (fs.map gl).length=fs:=by rw[List.length_map,List.take_length]
   rw[e];have hx:∀x,x∈hs++ (fs.filter fun f=>aF f hs).flatten↔x∈hs\/∃f∈fs,aF f hs=true/\x∈f:=fun x=>by
    rw[List.mem_append,List.mem_flatten];constructor
    ·rintro(a | ⟨f,hf,a⟩)
     ·exact .inl a
     ·obtain⟨h1,h2⟩:=zB.mp hf;exact .inr ⟨f,h1,h2,a⟩
    ·rintro(a | ⟨f,h1,h2,a⟩)
     ·exact .inl a
     ·exact .inr ⟨f,zB.mpr ⟨h1,h2⟩,a⟩
   dsimp only;unfold zhs
   and_intros
   refine zsy (U:=U) ?_ hU (fun x q=> ?_) fun ms s1 s2=> ?_
   ·have:=Ko (p:=fun f=>aF f hs) fs;rw[List.length_append];omega
   ·rcases(hx x).mp q with a | ⟨f,h1,_,a⟩
    ·exact u1 x a
    ·exact u2 f h1 x a
   ·refine⟨by show(1:Nat)<=sizeLine;omega,?_,?_⟩
    ·have:=List.length_filter_le (fun f=> !aF f hs) fs;show((fs.filter fun f=> !aF f hs).map gl).length+1<=sizeLine;rw[List.length_map];omega
    ·have:=h ms s1 fun x=>(s2 x).trans (hx x);rw[List.map_append] at this;exact this
theorem vA{g:List Str}(h:g.Pairwise fun a b=>gh a b=true):g.Nodup:=h.imp fun{a b} q z=>by rw[z,YJ] at q;cases q
theorem asT(a b:Str)(h:gh a b=true):¬gh b a=true:=by rw[YL h];exact zH
theorem zqg{rows cH :List Rw}{Ss uH :List (List Str)}(F:Sx rows Ss)(F' :Sx cH uH)(e:∀r,r∈rows↔r∈cH):∀S∈Ss,∃S' ∈uH,∀x,x∈S↔x∈S' :=fun S hS=>by
 obtain⟨r,hr,k⟩:=F.of S hS;obtain⟨S',hS',k'⟩:=F'.to r ((e r).mp hr);refine⟨S',hS',fun x=> ?_⟩;rw[k x,k' x,aU,aU];exact⟨fun⟨r,h,q⟩=>⟨r,(e r).mp h,q⟩,fun⟨r,h,q⟩=>⟨r,(e r).mpr h,q⟩⟩
theorem mW.sub{rows cH :List Rw}{ms dJ :List (List Str)}(h:mW rows ms)(h' :mW cH dJ)(e:∀r,r∈rows↔r∈cH):∀m∈ms,m∈dJ :=fun m hm=>by
 obtain⟨Ss,F,p⟩:=h.pi;obtain⟨uH,F',p'⟩:=h'.pi;obtain⟨m',hm',k⟩:=p.same p' (zqg F F' e) (zqg F' F fun r=>(e r).symm) hm;rw[RV asT (h.sr m hm) (h'.sr m' hm') k];exact hm'
theorem mW.uniq{rows cH :List Rw}{ms dJ :List (List Str)}(h:mW rows ms)(h' :mW cH dJ)(e:∀r,r∈rows↔r∈cH):ms=dJ :=
 RV (R:=fun a b=>gh (hdS a) (hdS b)=true) (fun a b q=>asT _ _ q) h.up h'.up fun m=>⟨h.sub h' e m,h'.sub h (fun r=>(e r).symm) m⟩
theorem mW.none{ms:List (List Str)}(h:mW [] ms):ms= []:=by
 cases ms with
 | nil=>rfl
 | cons m ms=>
  obtain⟨Ss,F,p⟩:=h.pi
  exfalso
  cases m with
  | nil=>exact p.ne [] zW rfl
  | cons x m=>
   obtain⟨S,hS,_⟩:=(p.co x).mp ⟨_,zW,zW⟩;obtain⟨r,hr,_⟩:=F.of S hS;cases hr
theorem zzl{f:List Str}(h:f≠ []):hdS f∈f:=by
 cases f with
 | nil=>exact absurd rfl h
 | cons x f=>exact zW
theorem Tn:∀{fs:List (List Str)},(∀f∈fs,f≠ []) ->fs.Pairwise (fun a b=>∀x∈a,x∉b) ->(fs.map hdS).Nodup
 | [],_,_=>by simp
 | f::fs,ne,d=>by
  rw[List.pairwise_cons] at d;rw[List.map_cons,List.nodup_cons];refine⟨fun z=> ?_,Tn (fun g hg=>ne g (zV _ hg)) d.2⟩;obtain⟨g,hg,e⟩:=zE.mp z;exact d.1 g hg (hdS f) (zzl (ne f zW)) (e ▸ zzl (ne g (zV _ hg)))
theorem Ho:∀{fs:List (List Str)},(∀f∈fs,f≠ []) ->fs.length<=fs.flatten.length
 | [],_=>by simp
 | f::fs,ne=>by
  have:=Ho (fs:=fs) fun g hg=>ne g (zV _ hg);have h1:0<f.length:=List.length_pos_iff.mpr (ne f zW);rw[List.length_cons,List.flatten_cons,List.length_append];omega
theorem Tq{Ss fs:List (List Str)}{U:List Str}(p:dU Ss fs)(h:∀S∈Ss,∀x∈S,x∈U):∀f∈fs,∀x∈f,x∈U:=fun f hf x hx=>by
 obtain⟨S,hS,q⟩:=(p.co x).mp ⟨f,hf,hx⟩;exact h S hS x q
theorem Tr{Ss fs:List (List Str)}{U:List Str}(p:dU Ss fs)(nd:∀f∈fs,f.Nodup)(h:∀S∈Ss,∀x∈S,x∈U):fs.flatten.length<=U.length:=
 wz (Gh p.dj nd) fun x hx=>by
  obtain⟨f,hf,q⟩:=List.mem_flatten.mp hx;exact Tq p h f hf x q
theorem Kp:∀l:List D,d8 (l.map .leaf)=l
 | []=>rfl
 | d::l=>by rw[List.map_cons];unfold d8;rw[Kp l];rfl
theorem Kq{α:Type}(f:α ->T):∀l:List α,d8 (l.map f)=l.map fun x=>toD (f x)
 | []=>rfl
 | d::l=>by rw[List.map_cons];unfold d8;rw[Kq f l];rfl
theorem zye(hs:List Str):(hs.map (Sum.inr:Str ->Key)).map cM=hs.map .str:=by rw[List.map_map];rfl
theorem zv5{K:W.Frag}{c:Cls}{ds Q Ex}(h:GP c ds Q Ex):zlv K c (tK Q) (aJ 3 ds) fun _=>Ex:=by
 obtain⟨rows,U,rfl,hl,hU,hu,h⟩:=h;refine⟨Nat.zero_le _,rows,rfl,hl,fun ws ps B=> ?_⟩;have Tt:∀p∈ps,(p.1.Nodup/\p.1≠ []/\∀x∈p.1,x∈U)/\∃r∈rows,∀x,x∈p.1↔x∈eO rows r.1:=fun p hp=>by
  obtain⟨q,hq,e⟩:=List.mem_iff_getElem.mp hp;have hq2:q<ws.length:=by rw[B.len];exact hq
  obtain⟨b1,b2,b3,b4⟩:=B.pt q _ p (zX hq2) (by rw[List.getElem?_eq_getElem hq,e])
  obtain⟨r,hr,er⟩:=(B.wm ws[q]).mp (yX hq2);refine⟨⟨b2,fun z=> ?_,fun x hx=> ?_⟩,r,hr,fun x=>by rw[er];exact b4 x⟩
  ·have:=(b4 r.2.1).mpr (aU.mpr ⟨r,hr,er,rfl⟩);rw[z] at this;cases this
  ·obtain⟨r',h1,_,h3⟩:=aU.mp ((b4 x).mp hx);exact h3 ▸ hu r' h1
 have few:∀i,∀S∈ (ps.take i).map (·.1),∀x∈S,x∈U:=fun i S hS x hx=>by
  obtain⟨p,hp,rfl⟩:=zE.mp hS;exact(Tt p (List.mem_of_mem_take hp)).1.2.2 x hx
 show jW (d8 (ps.map p8)) _ _ _ _ _;refine⟨fun i Γ=>∃fs x,dU ((ps.take i).map (·.1)) fs/\ (∀f∈fs,f.Pairwise fun a b=>gh a b=true)/\Γ= [.pu (aK rows),.pu (.lst (fs.map gl)),x],⟨[],_,by simpa using dU.nil,fun f hf=>by(cases hf),rfl⟩,?_,?_⟩
 ·rintro i d _ hi ⟨fs,x,p,sr,rfl⟩;rw[Kq] at hi;have hi' :i<ps.length:=by
   have:=(zU.mp hi).1
   rwa [List.length_map] at this
  rw[List.getElem?_map,List.getElem?_eq_getElem hi'] at hi;cases hi;have tk:ps.take (i+1)=ps.take i++ [ps[i]]:=by rw[List.take_add_one,List.getElem?_eq_getElem hi'];rfl
  obtain⟨⟨q1,q2,q3⟩,_⟩:=Tt ps[i] (yX hi');have l1:=wz q1 q3;have l2:=Tr p (fun f hf=>vA (sr f hf)) (few i);have l3:=Ho p.ne;refine⟨fs,ps[i].1,U,?_,by omega,by omega,hU,q3,Tq p (few i),fun g g1 g2=> ?_⟩
  ·show [D.lst (fs.map gl),D.lst ((ps[i].1.map Sum.inr).map cM)]=_;rw[zye];rfl
  ·refine⟨fs.filter (fun f=> !aF f ps[i].1)++ [g],_,?_,fun f hf=> ?_,rfl⟩
   ·rw[tk,List.map_append];exact p.step q2 g2
   ·rcases zR.mp hf with hf | hf
    ·exact sr f (zB.mp hf).1
    ·rw[List.mem_singleton.mp hf];exact g1
 ·rintro _ ⟨fs,x,p,sr,rfl⟩;have e:ps.take (d8 (ps.map p8)).length=ps:=by rw[Kq,List.length_map,List.take_length]
  rw[e] at p;have tL :∀S∈ps.map (·.1),∀x∈S,x∈U:=by have:=few ps.length;rwa [List.take_length] at this
  have l2:=Tr p (fun f hf=>vA (sr f hf)) tL;have l3:=Ho p.ne;refine⟨fs,rfl,p.ne,Tn p.ne p.dj,by omega,fun ms pm up=>h ms ⟨fun m hm=>sr m (pm.mem_iff.mp hm),up,_,⟨fun S hS=> ?_,fun r hr=> ?_⟩,p.perm pm⟩⟩
  ·obtain⟨p,hp,rfl⟩:=zE.mp hS;exact(Tt p hp).2
  ·have hw:=(B.wm r.1).mpr ⟨r,hr,rfl⟩;obtain⟨q,hq,e⟩:=List.mem_iff_getElem.mp hw;have hq2:q<ps.length:=by rw[<- B.len];exact hq
   obtain⟨b1,b2,b3,b4⟩:=B.pt q r.1 ps[q] (by rw[List.getElem?_eq_getElem hq,e]) (zX hq2)
   exact⟨ps[q].1,zE.mpr ⟨_,yX hq2,rfl⟩,b4⟩
def GZ(B:Nat)(q:Rat):Prop:=∃z:Int,q*27720=(z:Rat)/\z.natAbs<=B
theorem GZ.add{A B:Nat}{p q:Rat}(h1:GZ A p)(h2:GZ B q):GZ (A+B) (p+q):=by
 obtain⟨a,ea,ha⟩:=h1;obtain⟨b,eb,hb⟩:=h2;refine⟨a+b,?_,by omega⟩
 rw[Rat.intCast_add,<- ea,<- eb];grind
theorem GZ.sub{A B:Nat}{p q:Rat}(h1:GZ A p)(h2:GZ B q):GZ (A+B) (p - q):=by
 obtain⟨a,ea,ha⟩:=h1;obtain⟨b,eb,hb⟩:=h2;refine⟨a - b,?_,by omega⟩
 rw[Rat.intCast_sub,<- ea,<- eb];grind
theorem GZ.mono{A B:Nat}{q:Rat}(h:GZ A q)(l:A<=B):GZ B q:=by
 obtain⟨a,ea,ha⟩:=h;exact⟨a,ea,zN ha l⟩
theorem Tv{B:Nat}:∀{qs:List Rat},(∀q∈qs,GZ B q) ->GZ (qs.length*B) (dM qs)
 | [],_=>⟨0,by unfold dM;grind,by simp⟩
 | q::qs,h=>by
  refine((h q zW).add (Tv fun p hp=>h p (zV _ hp))).mono ?_;rw[List.length_cons,Nat.add_mul];omega
theorem zm{n:Nat}(h1:1<=n)(h2:n<=12):n* (27720/n)=27720:=by
 match n,h1,h2 with
 | 1,_,_=>rfl
 | 2,_,_=>rfl
 | 3,_,_=>rfl
 | 4,_,_=>rfl
 | 5,_,_=>rfl
 | 6,_,_=>rfl
 | 7,_,_=>rfl
 | 8,_,_=>rfl
 | 9,_,_=>rfl
 | 10,_,_=>rfl
 | 11,_,_=>rfl
 | 12,_,_=>rfl
theorem Tw{t:Int}{n B:Nat}(h1:1<=n)(h2:n<=12)(ht:t.natAbs<=B):GZ (B*27720) ((t:Rat)/ ((n:Nat):Rat)):=by
 have e:=zm h1 h2;have n0:((n:Nat):Rat)≠0:=fun z=>by
  have:n=0:=by exact_mod_cast z
  omega
 refine⟨t* ((27720/n:Nat):Int),?_,?_⟩
 ·have e' :(27720:Rat)=((n:Nat):Rat)* ((27720/n:Nat):Rat):=by exact_mod_cast e.symm
  rw[e',Rat.intCast_mul,Rat.div_def,Rat.mul_assoc,<- Rat.mul_assoc (((n:Nat):Rat)⁻¹),Rat.inv_mul_cancel _ n0,Rat.one_mul]
  rfl
 ·rw[Int.natAbs_mul];refine Nat.mul_le_mul ht ?_;rw[Int.natAbs_natCast];exact Nat.div_le_self _ _
theorem zyn{t:Int}{B:Nat}(ht:t.natAbs<=B):GZ (B*27720) (t:Rat):=by
 refine⟨t*27720,by rw[Rat.intCast_mul];rfl,?_⟩
 rw[Int.natAbs_mul];exact Nat.mul_le_mul ht (zM _)
theorem Kr{B n:Nat}{q:Rat}(h:GZ B q)(hB:B<2^n):bD q.num<=n/\bD (q.den:Int)<=15:=by
 obtain⟨z,e,hz⟩:=h;have c0:((27720:Int):Rat)≠0:=by decide
 have eq:q=(z:Rat)/ ((27720:Int):Rat):=by
  rw[<- e,Rat.div_def,Rat.mul_assoc];have:(27720:Rat)* ((27720:Int):Rat)⁻¹=1:=by
   have:=Rat.mul_inv_cancel _ c0;exact this
  rw[this];grind
 have b1:bD z<=n:=gU (by omega)
 have f:=JW (t:=z) (b:=27720) (by decide)
 have e1:(fr z 27720).1=_:=congrArg Prod.fst f;have e2:(fr z 27720).2=_:=congrArg Prod.snd f;dsimp only at e1 e2;rw[eq];refine⟨zN (vR ?_) b1,zN (vR (j:=27720) ?_) (gU (by decide))⟩
 ·rw[<- e1];exact ZS (by decide)
 ·rw[<- e2];exact ZV (by decide)
theorem BX{B n:Nat}{q:Rat}(h:GZ B q)(hB:B<2^n)(hn:15<=n):Sz n q:=⟨(Kr h hB).1,zN (Kr h hB).2 hn⟩
theorem vB{B n:Nat}{q:Rat}(h:GZ B q)(hB:B<2^n)(hn:n<=400):Ka q:=⟨zN (Kr h hB).1 hn,zN (Kr h hB).2 (by decide)⟩
theorem z2a{n:Nat}(h:1<=n):qD (((-1:Int):Rat)/ ((n:Nat):Rat))= .tup [.int (-1),.int n]:=by
 have f:=JW (t:= -1) (b:=(n:Int)) (by omega)
 have e1:(fr (-1) (n:Int)).1=_:=congrArg Prod.fst f;have e2:(fr (-1) (n:Int)).2=_:=congrArg Prod.snd f;dsimp only at e1 e2;have g:dv (-1) (n:Int)=1:=by unfold dv;rw[if_neg (by omega)];simp
 have t1:=JV (-1) (n:Int);have t2:=Gg (-1) (n:Int);rw[g,Int.one_mul] at t1 t2;unfold qD;have c:(((-1:Int):Rat)/ ((n:Nat):Rat))=((-1:Int):Rat)/ (((n:Nat):Int):Rat):=rfl;rw[c,<- e1,<- e2,t1,t2]
theorem Tz{α:Type}(f:α ->Rat):∀l:List α,dM (l.map f)=ao l f
 | []=>rfl
 | a::l=>by show f a+dM (l.map f)=f a+ao l f;rw[Tz f l]
theorem Hq(rows:List Rw)(w:Str):qG (uJ rows w)=some ((kW rows w).map .inr,(bH rows w).map fun r=> .int r.2.2):=rfl
theorem zjw{K:W.Frag}{c:Cls}{ds Q Ex}(h:wF c ds Q Ex):zet K c (fin Q) (aJ 2 ds) fun _=>Ex:=by
 obtain⟨rows,ws,h0,rfl,h⟩:=h;show aQ _ (ws.map (uJ rows)) _;refine vq (uJ rows) (uJ rows) (fun w=>decide (h0∈kW rows w)) (fun w hw P hp=> ?_) h;refine⟨_,_,.inr h0,Hq rows w,rfl,?_⟩;rw[zj];simp only [Bool.false_eq_true,if_false];by_cases q:h0∈kW rows w
 ·rw[decide_eq_true q] at hp⊢;exact hp
 ·rw[decide_eq_false q] at hp⊢;exact hp
theorem tM{rows:List Rw}(L:LB rows){w:Str}(h:bH rows w≠ []):1<=(kW rows w).length/\ (kW rows w).length<=12:=by
 rw[Bt];exact⟨List.length_pos_iff.mpr h,L.wk w⟩
theorem z0c{K:W.Frag}{c:Cls}{ds Q Ex}(h:GQ c ds Q Ex):zpu K c (fin Q) (aJ 5 ds) fun _=>Ex:=by
 obtain⟨rows,ws,h0,o0,rfl,L,⟨W1,W2⟩,h⟩:=h;have s1:=vp;refine⟨rows,ws,h0,rfl,rows,ws.filter (fun w=>decide (h0∈kW rows w)),o0,rfl,?_⟩
 let both:=(ws.filter fun w=>decide (h0∈kW rows w)).filter fun w=>decide (o0∈kW rows w)
 show S6 K c (fin Q) [.pu (.str h0),.pu (.str o0),.pu (jR rows ws),.pu (jR rows both),.no] fun _=>Ex;have hb:∀w∈both,bH rows w≠ []:=fun w hw=>W2 w (zB.mp (zB.mp hw).1).1;have hbl:both.length<=200:=zN (zN (List.length_filter_le _ _) (List.length_filter_le _ _)) W1
 let f:Str ->Rat:=fun w=>((-1:Int):Rat)/ (((kW rows w).length:Nat):Rat)
 have gz:∀w∈both,GZ 27720 (f w):=fun w hw=>by
  have:=Tw (t:= -1) (B:=1) (tM L (hb w hw)).1 (tM L (hb w hw)).2 (by decide)
  rw[Nat.one_mul] at this;exact this
 have gs:∀k,GZ (200*27720) (dM ((both.map f).take k)):=fun k=>by
  refine(Tv fun q hq=> ?_).mono (Nat.mul_le_mul_right _ (zN (by rw[List.length_take];omega) (show(both.map f).length<=200 by rw[List.length_map];exact hbl)))
  obtain⟨w,hw,rfl⟩:=zE.mp (List.mem_of_mem_take hq);exact gz w hw
 have e2:dM (both.map f)=ao ws fun w=>if h0∈kW rows w/\o0∈kW rows w then f w else 0:=by
  rw[Tz];show ao ((ws.filter fun w=>decide (h0∈kW rows w)).filter fun w=>decide (o0∈kW rows w)) f=_;rw[tG,tG];refine dX fun w _=> ?_;by_cases q1:h0∈kW rows w
  ·by_cases q2:o0∈kW rows w<;>simp [q1,q2]
  ·simp [q1]
 have e3:(ao (ws.map (kW rows)) fun s=>if h0∈s/\o0∈s then 1/ (s.length:Rat) else 0)= - dM (both.map f):=by
  rw[e2,qI];have: - (ao ws fun w=>if h0∈kW rows w/\o0∈kW rows w then f w else 0)=ao ws fun w=>(-1)* (if h0∈kW rows w/\o0∈kW rows w then f w else 0):=by rw[tD];grind
  rw[this];refine dX fun w _=> ?_;split
  ·show 1/ (((kW rows w).length:Nat):Rat)=(-1)* (((-1:Int):Rat)/ (((kW rows w).length:Nat):Rat));rw[Rat.div_def,Rat.div_def];have:((-1:Int):Rat)= -1:=rfl;rw[this];grind
  ·grind
 have pw:∀n,23<=n ->200*27720<2^n:=fun n hn=>zL (show 200*27720<2^23 by decide) (Nat.pow_le_pow_right (by decide) hn)
 unfold S6
 and_intros
 refine wG (uJ rows) (fun w=> .tup [.int (-1),.int (((kW rows w).length:Nat):Int)]) (fun w hw P hp=> ?_) ?_
 ·refine⟨_,_,Hq rows w,by show(2:Nat)<=sizeLine;omega,?_⟩
  rw[List.length_map];exact hp
 refine⟨both.map f,?_,fun q hq=> ?_,fun k=>BX (gs k) (pw 4000 (by decide)) (by decide),?_⟩
 ·rw[List.map_map];refine congrArg (fun z=> [D.lst z]) (List.map_congr_left fun w hw=> ?_);exact(z2a (tM L (hb w hw)).1).symm
 ·obtain⟨w,hw,rfl⟩:=zE.mp hq;exact BX (gz w hw) (zK (by decide) (pw 4000 (by decide))) (by decide)
 have gt:=gs (both.map f).length;rw[List.take_length] at gt;unfold zjf
 and_intros
 refine⟨by simp [gP],?_⟩
 rw[zf];by_cases q:h0=o0
 ·subst q;rw[decide_eq_true rfl];have eb:both.length=(ws.filter fun w=>decide (h0∈kW rows w)).length:=by
   show((ws.filter fun w=>decide (h0∈kW rows w)).filter fun w=>decide (h0∈kW rows w)).length=_;rw[List.filter_filter];simp
  have ec:dI (ws.map (kW rows)) h0=((both.length:Nat):Rat):=by
   unfold dI;rw[qI,eb];have:=tE (α:=Str) 1 (l:=ws.filter fun w=>decide (h0∈kW rows w));rw[tG] at this;rw[Rat.mul_one] at this;rw[<- this];exact dX fun w _=>by by_cases q:h0∈kW rows w<;>simp [q]
  refine⟨by show(2:Nat)<=sizeLine;omega,((both.length:Int):Rat),dM (both.map f),?_,?_,BX gt (pw 4000 (by decide)) (by decide),?_⟩
  ·rw[J0,List.length_map]
  ·exact Z0 (gU (k:=4000) (zK (show((both.length:Nat):Int).natAbs<=200*27720 by omega) (pw 4000 (by decide)))) (by decide)
  ·have:((both.length:Int):Rat)+dM (both.map f)=bJ (ws.map (kW rows)) h0 h0:=by
    unfold bJ;rw[if_pos rfl,e3,ec];show((both.length:Nat):Rat)+_=_
    grind
   rw[this];exact h
 ·rw[decide_eq_false q];have:dM (both.map f)=bJ (ws.map (kW rows)) h0 o0:=by
   unfold bJ;rw[if_neg q,e3];grind
  show Q (qD (dM (both.map f)));rw[this];exact h
theorem zw4{K:W.Frag}{c:Cls}{ds Q Ex}(h:GR c ds Q Ex):zmv K c (fin Q) (aJ 3 ds) fun _=>Ex:=by
 obtain⟨rows,ws,m,h0,rfl,L,W,h⟩:=h;show aQ _ (m.map D.str) _;refine wG D.str (fun o=>qD (bJ (ws.map (kW rows)) h0 o)) (fun o ho P hp=> ?_) h;exact⟨rows,ws,h0,o,rfl,L,W,hp⟩
theorem zly{α:Type}(f:α ->Int):∀l:List α,fW (l.map fun a=> .int (f a))=some (l.map f)
 | []=>rfl
 | a::l=>by unfold List.map fW;rw[zly f l];rfl
theorem TF{α:Type}(f:α ->Int):∀l:List α,(((l.map f).sum:Int):Rat)=ao l fun a=>(f a:Rat)
 | []=>rfl
 | a::l=>by
  rw[List.map_cons,List.sum_cons,Rat.intCast_add,TF f l];rfl
theorem TJ{α:Type}(f:α ->Int){B:Nat}:∀{l:List α},(∀a∈l,(f a).natAbs<=B) ->((l.map f).sum).natAbs<=l.length*B
 | [],_=>by simp
 | a::l,h=>by
  have h1:=h a zW;have h2:=TJ f (l:=l) fun b hb=>h b (zV _ hb);rw[List.map_cons,List.sum_cons,List.length_cons,Nat.add_mul];omega
theorem znu{K:W.Frag}{c:Cls}{ds Q Ex}(h:GX c ds Q Ex):zgv K c (fin Q) (aJ 1 ds) fun _=>Ex:=by
 obtain⟨rows,w,rfl,L,ne,h⟩:=h;have hp:=List.length_pos_iff.mpr ne;have h12:=L.wk w;refine⟨_,_,(bH rows w).map (fun r=>r.2.2),Hq rows w,zly _ _,_,_,Hq rows w,_,_,rfl,?_,?_,?_⟩
 ·have:=TJ (fun r:Rw=>r.2.2) (B:=2^100) (l:=bH rows w) fun r hr=>Nat.le_of_lt (L.mm r (aP.mp hr).1);refine zN (gU (k:=104) (zK this ?_)) (by decide)
  exact zK (Nat.mul_le_mul_right _ h12) (by decide)
 ·rw[List.length_map,Bt];exact zN (gU (k:=4) (by omega)) (by decide)
 ·rw[List.length_map,Bt,if_neg (by omega),TF]
  exact h
theorem zv7{L:List Rw}{h:Str}:dH (L.map fun r=> .inr r.2.1) (L.map fun r=> .int r.2.2) (.inr h)=(L.find? fun r=>decide (r.2.1=h)).map fun r=> .int r.2.2:=by
 induction L with
 | nil=>rfl
 | cons r L ih=>
  rw[List.map_cons,List.map_cons,List.find?_cons];unfold dH;by_cases q:r.2.1=h
  ·rw[if_pos (by rw[q]),decide_eq_true q];rfl
  ·rw[if_neg (fun z=>q (by injection z)),decide_eq_false q];exact ih
theorem zuz{rows:List Rw}(u:Uq rows){w h:Str}(hh:h∈kW rows w):∃r∈rows,r.1=w/\r.2.1=h/\dH ((kW rows w).map .inr) ((bH rows w).map fun r=> .int r.2.2) (.inr h)=some (.int r.2.2)/\yW rows w h=(r.2.2:Rat):=by
 obtain⟨r,hr,e1,e2⟩:=eN.mp hh;refine⟨r,hr,e1,e2,?_,?_⟩
 ·unfold kW;rw[List.map_map];have:=zv7 (L:=bH rows w) (h:=h);show dH ((bH rows w).map fun r=> .inr r.2.1) _ _=_;rw[this];cases q:(bH rows w).find? fun r=>decide (r.2.1=h) with
  | none=>
   have:=List.find?_eq_none.mp q r (aP.mpr ⟨hr,e1⟩);simp [e2] at this
  | some s=>
   have s1:=aP.mp (List.mem_of_find?_eq_some q);have s2:s.2.1=h:=by simpa using List.find?_some q
   rw[Sw u s1.1 hr (s1.2.trans e1.symm) (s2.trans e2.symm)];rfl
 ·have:=J8 u hr;rw[e1,e2] at this;exact this
theorem wH{rows:List Rw}(u:Uq rows)(w:Str):aX (kW rows w) (yW rows w)=ao (bH rows w) (fun r=>(r.2.2:Rat))/ ((bH rows w).length:Rat):=by
 unfold aX;rw[Bt,zzc]
 congr 1
 refine dX fun r hr=> ?_;have:=J8 u (aP.mp hr).1;rw[(aP.mp hr).2] at this;rw[this]
theorem zvz{rows:List Rw}(L:LB rows){w:Str}(ne:bH rows w≠ []):GZ (2^104*27720) (ao (bH rows w) (fun r=>(r.2.2:Rat))/ ((bH rows w).length:Rat)):=by
 have hp:=List.length_pos_iff.mpr ne;have h12:=L.wk w;have:=TJ (fun r:Rw=>r.2.2) (B:=2^100) (l:=bH rows w) fun r hr=>Nat.le_of_lt (L.mm r (aP.mp hr).1);rw[<- TF];refine Tw hp h12 (zN this (zN (Nat.mul_le_mul_right _ h12) (by decide)))
theorem TQ{rows:List Rw}(u:Uq rows)(L:LB rows){w h:Str}(hh:h∈kW rows w):GZ (2^105*27720) (yW rows w h - aX (kW rows w) (yW rows w)):=by
 obtain⟨r,hr,e1,e2,_,ey⟩:=zuz u hh;rw[ey,wH u];have ne:bH rows w≠ []:=fun z=>by
  have:=aP.mpr ⟨hr,e1⟩;rw[z] at this;cases this
 exact((zyn (B:=2^104) (zN (Nat.le_of_lt (L.mm r hr)) (by decide))).sub (zvz L ne)).mono (by decide)
theorem zww{K:W.Frag}{c:Cls}{ds Q Ex}(h:G3 c ds Q Ex):S7 K c (fin Q) (aJ 2 ds) fun _=>Ex:=by
 obtain⟨rows,ws,h0,rfl,u,L,⟨W1,W2⟩,h⟩:=h;have s1:=vp;have pw:∀n,128<=n ->200* (2^105*27720)<2^n:=fun n hn=>zL (show 200* (2^105*27720)<2^128 by decide) (Nat.pow_le_pow_right (by decide) hn)
 let wh:=ws.filter fun w=>decide (h0∈kW rows w)
 have wJ:∀w∈wh,w∈ws/\h0∈kW rows w:=fun w hw=>⟨(zB.mp hw).1,of_decide_eq_true (zB.mp hw).2⟩
 let f:Str ->Rat:=fun w=>yW rows w h0 - aX (kW rows w) (yW rows w)
 unfold S7
 and_intros
 refine⟨rows,ws,h0,rfl,?_⟩;show aQ _ (wh.map (uJ rows)) _;refine wG (uJ rows) (fun w=>qD (f w)) (fun w hw P hp=> ?_) ?_
 ·obtain⟨r,hr,e1,e2,lk,ey⟩:=zuz u (wJ w hw).2;refine⟨_,_,.inr h0,.int r.2.2,Hq rows w,rfl,lk,by show(2:Nat)<=sizeLine;omega,rows,w,rfl,L,W2 w (wJ w hw).1,?_⟩
  refine⟨((r.2.2:Int):Rat),_,by rw[J0],?_,BX (zvz L (W2 w (wJ w hw).1)) (zK (by decide) (pw 4000 (by decide))) (by decide),?_⟩
  ·exact Z0 (zN (gU (L.mm r hr)) (by decide)) (by decide)
  ·rw[<- wH u,<- ey];exact hp
 ·have gs:∀k,GZ (200* (2^105*27720)) (dM ((wh.map f).take k)):=fun k=>by
   refine(Tv fun q hq=> ?_).mono (Nat.mul_le_mul_right _ (zN (by rw[List.length_take];omega) (show(wh.map f).length<=200 by rw[List.length_map];exact zN (List.length_filter_le _ _) W1)))
   obtain⟨w,hw,rfl⟩:=zE.mp (List.mem_of_mem_take hq);exact TQ u L (wJ w hw).2
  refine⟨wh.map f,by rw[List.map_map];rfl,fun q hq=> ?_,fun k=>BX (gs k) (pw 4000 (by decide)) (by decide),?_⟩
  ·obtain⟨w,hw,rfl⟩:=zE.mp hq;exact BX (TQ u L (wJ w hw).2) (zK (by decide) (pw 4000 (by decide))) (by decide)
  ·have:dM (wh.map f)=fD (kW rows) (yW rows) ws h0:=by
    rw[Tz];show ao (ws.filter fun w=>decide (h0∈kW rows w)) f=_;rw[tG];unfold fD;exact dX fun w _=>by by_cases q:h0∈kW rows w<;>simp [q,f]
   rw[this];exact h
theorem Ks{α:Type}{B:Nat}{f:α ->Rat}:∀{l:List α},(∀a∈l,GZ B (f a)) ->GZ (l.length*B) (ao l f)
 | [],_=>⟨0,by unfold ao;grind,by simp⟩
 | a::l,h=>by
  refine((h a zW).add (Ks fun b hb=>h b (zV _ hb))).mono ?_;rw[List.length_cons,Nat.add_mul];omega
theorem Hr(B:Nat):GZ B 0:=⟨0,by grind,by simp⟩
theorem zyo{rows:List Rw}{ws:List Str}(W:n8 rows ws)(h:Str):GZ (200*27720) (dI (ws.map (kW rows)) h):=by
 unfold dI;rw[qI];refine(Ks (B:=27720) fun w _=> ?_).mono (Nat.mul_le_mul_right _ W.1);split
 ·have:=zyn (t:=1) (B:=1) (by decide)
  rw[Nat.one_mul] at this;exact this
 ·exact Hr _
theorem zyh{rows:List Rw}{ws:List Str}(L:LB rows)(W:n8 rows ws)(h o:Str):GZ (400*27720) (bJ (ws.map (kW rows)) h o):=by
 unfold bJ;have g1:GZ (200*27720) (if h=o then dI (ws.map (kW rows)) h else 0):=by
  split
  ·exact zyo W h
  ·exact Hr _
 have g2:GZ (200*27720) (ao (ws.map (kW rows)) fun s=>if h∈s/\o∈s then 1/ (s.length:Rat) else 0):=by
  rw[qI];refine(Ks (B:=27720) fun w hw=> ?_).mono (Nat.mul_le_mul_right _ W.1);split
  ·have:=Tw (t:=1) (B:=1) (tM L (W.2 w hw)).1 (tM L (W.2 w hw)).2 (by decide)
   rw[Nat.one_mul] at this;exact this
  ·exact Hr _
 exact(g1.sub g2).mono (by decide)
theorem z18{rows:List Rw}{ws:List Str}(u:Uq rows)(L:LB rows)(W:n8 rows ws)(h:Str):GZ (200* (2^105*27720)) (fD (kW rows) (yW rows) ws h):=by
 unfold fD;refine(Ks (B:=2^105*27720) fun w _=> ?_).mono (Nat.mul_le_mul_right _ W.1);split
 ·rename_i q;exact TQ u L q
 ·exact Hr _
theorem Ku{α β:Type}[Inhabited α](g:α ->β)(l:List α):l.map g=(List.range l.length).map fun j=>g (l.getD j default):=by
 apply List.ext_getElem
 ·simp
 ·intro i h1 h2;simp only [List.getElem_map,List.getElem_range];have hi:i<l.length:=by simpa using h1
  rw[List.getD_eq_getElem?_getD,List.getElem?_eq_getElem hi];rfl
theorem zxo(x:D)(xs:List D):cutD (x::xs) (some 1) none=xs:=by
 unfold cutD HT.sIx;simp
theorem zg6{K:W.Frag}{c:Cls}{ds Q Ex}(h:G4 c ds Q Ex):zc3 K c (fin Q) (aJ 5 ds) fun _=>Ex:=by
 obtain⟨rows,ws,m,rfl,S,L,W,ne,TV,h⟩:=h;have s1:=vp;obtain⟨h0,hs,em⟩:∃h0 hs,m=h0::hs:=by
  cases m with
  | nil=>exact absurd rfl ne
  | cons a b=>exact⟨a,b,rfl⟩
 have hn:m.length=hs.length+1:=by rw[em];rfl
 have gs:∀i,m.getD (i+1) default=hs.getD i default:=fun i=>by rw[em];rfl
 have ct:cutD (m.map D.str) (some 1) none=hs.map D.str:=by rw[em];exact zxo _ _
 let A:=fZ rows ws m
 show aQ _ (cutD (m.map D.str) (some 1) none) _;rw[ct];refine wG D.str (fun h=> .lst (m.map fun o=>qD (bJ (ws.map (kW rows)) h o))) (fun h hh P hp=>⟨rows,ws,m,h,rfl,L,W,hp⟩) ?_;show aQ _ (cutD (m.map D.str) (some 1) none) _;rw[ct];refine wG D.str (fun h=>qD (fD (kW rows) (yW rows) ws h)) (fun h hh P hp=>⟨rows,ws,h,rfl,S.u,L,W,hp⟩) ?_;have ec:∀h,dI (ws.map (kW rows)) h=(((ws.filter fun w=>decide (h∈kW rows w)).length:Int):Rat):=fun h=>by
  unfold dI;rw[qI];have:=tE (α:=Str) 1 (l:=ws.filter fun w=>decide (h∈kW rows w));rw[tG,Rat.mul_one] at this;refine Eq.trans ?_ this;exact dX fun w _=>by by_cases q:h∈kW rows w<;>simp [q]
 show zcl K c (fin Q) [.pu (gl m),.pu (jR rows ws),.pu (.lst (hs.map fun h=> .lst (m.map fun o=>qD (bJ (ws.map (kW rows)) h o)))),.pu (.lst (hs.map fun h=>qD (fD (kW rows) (yW rows) ws h))),.no] fun _=>Ex;show aQ _ (m.map D.str) _;refine wG D.str (fun h=>qD (dI (ws.map (kW rows)) h)) (fun h hh P hp=> ?_) ?_
 ·refine⟨rows,ws,h,rfl,by show(2:Nat)<=sizeLine;omega,?_⟩
  rw[ec,J0] at hp;rw[List.length_map];exact hp
 unfold zce
 and_intros
 have l1:hs.length<=1000:=by omega
 refine⟨by show(1:Nat)<=sizeLine;omega,by rw[List.length_map];simp;omega,by show(2:Nat)<=sizeLine;omega,by show(1:Nat)<=sizeLine;omega,by rw[List.length_map];simp;omega,?_⟩
 have Hs:∀i,i<m.length ->gB m.length (A i)= .lst (m.map fun o=>qD (if i=0 then dI (ws.map (kW rows)) o else bJ (ws.map (kW rows)) (m.getD i default) o)):=fun i hi=>by
  unfold gB;rw[Ku (fun o=>qD (if i=0 then dI (ws.map (kW rows)) o else bJ (ws.map (kW rows)) (m.getD i default) o)) m];refine congrArg D.lst (List.map_congr_left fun j hj=> ?_);show qD (fZ rows ws m i j)=_;unfold fZ;rw[if_pos (List.mem_range.mp hj)]
 have idx:∀j,j<m.length ->m.idxOf (m.getD j default)=j:=fun j hj=>by
  rw[List.getD_eq_getElem?_getD,List.getElem?_eq_getElem hj];exact S.nm.idxOf_getElem j hj
 have conv:∀(X:Nat ->Rat) i,bx m.length (fun j=>A i j*X j)=bx m.length fun j=>A i j*X (m.idxOf (m.getD j default)):=fun X i=>wA fun j hj=>by rw[idx j hj]
 refine⟨m.length,A,⟨?_,TV,fun i j hi hj=> ?_⟩,fun y k hk y1 hy=> ?_,fun X hX hsz=> ?_⟩
 ·have t1:tH m.length m.length A= .lst ([.lst (m.map fun h=>qD (dI (ws.map (kW rows)) h))]++hs.map fun h=> .lst (m.map fun o=>qD (bJ (ws.map (kW rows)) h o))):=by
   unfold tH;rw[hn,List.range_succ_eq_map,List.map_cons,List.map_map,<- hn,Hs 0 (by omega)]
   rw[Ku (fun h=>D.lst (m.map fun o=>qD (bJ (ws.map (kW rows)) h o))) hs];refine congrArg D.lst ?_;show _::_=_::_;refine List.cons_eq_cons.mpr ⟨rfl,List.map_congr_left fun i hi=> ?_⟩;have hi' :=List.mem_range.mp hi;show gB m.length (A (i+1))=_;rw[Hs (i+1) (by omega)]
   refine congrArg D.lst (List.map_congr_left fun o _=> ?_);rw[if_neg (by omega),gs]
  have t2:gB m.length (fun i=>A i m.length)= .lst ([.tup [.int 0,.int 1]]++hs.map fun h=>qD (fD (kW rows) (yW rows) ws h)):=by
   unfold gB;rw[hn,List.range_succ_eq_map,List.map_cons,List.map_map,<- hn];rw[Ku (fun h=>qD (fD (kW rows) (yW rows) ws h)) hs];have a0:A 0 m.length=((0:Int):Rat):=by
    show fZ rows ws m 0 m.length=_;unfold fZ;rw[if_neg (Nat.lt_irrefl _),if_pos rfl];rfl
   refine congrArg D.lst ?_;show qD (A 0 m.length)::_=_::_;rw[a0,J0];refine List.cons_eq_cons.mpr ⟨rfl,List.map_congr_left fun i hi=> ?_⟩;show qD (fZ rows ws m (i+1) m.length)=_;unfold fZ;rw[if_neg (Nat.lt_irrefl _),if_neg (by omega),gs]
  rw[t1,t2]
  rfl
 ·show Ka (fZ rows ws m i j);unfold fZ;split
  ·split
   ·exact vB (zyo W _) (n:=23) (by decide) (by decide)
   ·exact vB (zyh L W _ _) (n:=24) (by decide) (by decide)
  ·split
   ·exact vB (Hr 0) (n:=1) (by decide) (by decide)
   ·exact vB (z18 S.u L W _) (n:=128) (by decide) (by decide)
 ·have z:=S.null (fun h=>y (m.idxOf h)) (fun i hi=>by
   have:=hy i hi;rw[conv] at this;exact this) (m.getD k default) (zuu hk)
  rw[idx k hk,y1] at z;exact absurd z (by decide)
 ·have a:=S.ans (fun h=>X (m.idxOf h)) (fun i hi=>by
   have:=hX i hi;rw[conv] at this;exact this)
  have e:gB m.length X= .lst (m.map fun h=>qD (X (m.idxOf h))):=by
   unfold gB;rw[Ku (fun h=>qD (X (m.idxOf h))) m];exact congrArg D.lst (List.map_congr_left fun j hj=>by rw[idx j (List.mem_range.mp hj)])
  rw[e];refine h _ a.1 a.2 fun g hg=>hsz _ ?_;exact List.idxOf_lt_length_of_mem hg
theorem zyf{n:Nat}(a b:List Rw):gP (n+2) (aK a) (aK b):=by
 unfold aK;simp only [gP];intro i x y h1 h2;rw[List.getElem?_map] at h1 h2;cases q1:a[i]? with
 | none=>rw[q1] at h1;cases h1
 | some u=>
  cases q2:b[i]? with
  | none=>rw[q2] at h2;cases h2
  | some v=>
   rw[q1] at h1;rw[q2] at h2;cases h1;cases h2;unfold jw;simp only [gP];intro j x y g1 g2
   match j with
   | 0=>simp at g1 g2;subst g1 g2;cases n<;>simp [gP]
   | 1=>simp at g1 g2;subst g1 g2;cases n<;>simp [gP]
   | 2=>simp at g1 g2;subst g1 g2;cases n<;>simp [gP]
   | j+3=>simp at g1
theorem z2c(ms:List (List Str)):toD (.lst ((ms.map gl).map .leaf))= .lst (ms.map gl):=by unfold toD;rw[Kp]
theorem mW.sys{rows:List Rw}{ms:List (List Str)}(G:mW rows ms)(u:Uq rows){m:List Str}(hm:m∈ms):(∀r∈rows,r.2.1∈m ->∀h∈kW rows r.1,h∈m)/\∀ws:List Str,ws.Nodup ->(∀w,w∈ws↔∃r∈ofM rows m,r.1=w) ->kj (ofM rows m) ws m:=by
 obtain⟨Ss,F,p⟩:=G.pi;have cl:∀r∈rows,r.2.1∈m ->∀h∈kW rows r.1,h∈m:=fun r hr hh h hk=>by
  obtain⟨S,hS,e⟩:=F.to r hr;obtain⟨f,hf,sub⟩:=p.sub S hS;have h1:r.2.1∈f:=sub _ ((e _).mpr (aU.mpr ⟨r,hr,rfl,rfl⟩));have h2:h∈f:=sub _ ((e _).mpr hk);rw[Bq p.dj hm hf hh h1];exact h2
 refine⟨cl,fun ws nw hw=>⟨u.M m,nw,fun r hr=>(hw _).mpr ⟨r,hr,rfl⟩,vA (G.sr m hm),fun r hr=>(cA.mp hr).2,fun h hh=> ?_,fun C hC hx=> ?_⟩⟩
 ·obtain⟨S,hS,hs⟩:=(p.co h).mp ⟨m,hm,hh⟩;obtain⟨r,hr,e⟩:=F.of S hS;obtain⟨r',hr',_,e2⟩:=aU.mp ((e h).mp hs);exact⟨r',cA.mpr ⟨hr',by rw[e2];exact hh⟩,e2⟩
 ·have key:=p.min (fun x=>x∈m ->C x) (fun S hS hx y hy ym=> ?_) m hm (by
   obtain⟨x,h1,h2⟩:=hx;exact⟨x,h1,fun _=>h2⟩)
  ·exact fun x hx=>key x hx hx
  ·obtain⟨r,hr,e⟩:=F.of S hS;obtain⟨f,hf,sub⟩:=p.sub S hS;have fm:m=f:=Bq p.dj hm hf ym (sub y hy);have inm:∀z∈S,z∈m:=fun z hz=>by rw[fm];exact sub z hz
   have same:∀z,z∈S↔z∈kW (ofM rows m) r.1:=fun z=>by
    rw[eN];constructor
    ·intro hz;obtain⟨r',h1,h2,h3⟩:=aU.mp ((e z).mp hz);exact⟨r',cA.mpr ⟨h1,by rw[h3];exact inm z hz⟩,h2,h3⟩
    ·rintro⟨r',h1,h2,h3⟩;exact(e z).mpr (aU.mpr ⟨r',(cA.mp h1).1,h2,h3⟩)
   obtain⟨x,hx1,hx2⟩:=hx;obtain⟨r',h1,h2,h3⟩:=eN.mp ((same x).mp hx1);exact hC r.1 ((hw _).mpr ⟨r',h1,h2⟩) ⟨x,(same x).mp hx1,hx2 (inm x hx1)⟩ y ((same y).mp hy)
theorem z3i{rows:List Rw}{m:List Str}{w:Str}:bH (ofM rows m) w=(bH rows w).filter fun r=>decide (r.2.1∈m):=by
 unfold bH ofM;rw[List.filter_filter,List.filter_filter];exact List.filter_congr fun r _=>Bool.and_comm _ _
theorem z15{rows:List Rw}{m:List Str}{w:Str}(h:∀x∈kW rows w,x∈m):bH (ofM rows m) w=bH rows w:=by
 rw[z3i];refine List.filter_eq_self.mpr fun r hr=>decide_eq_true (h _ ?_);exact eN.mpr ⟨r,(aP.mp hr).1,(aP.mp hr).2,rfl⟩
theorem z5x{rows:List Rw}{m:List Str}{h:Str}(hm:h∈m):fM (ofM rows m) h=fM rows h:=by
 unfold fM ofM;rw[List.filter_filter];refine List.filter_congr fun r _=> ?_;by_cases q:r.2.1=h
 ·simp [q,hm]
 ·simp [q]
theorem z5g{rows:List Rw}{m:List Str}{x:Str ->Rat}(cl:∀r∈rows,r.2.1∈m ->∀h∈kW rows r.1,h∈m){h:Str}(hm:h∈m)(e:jk (ofM rows m) x h):jk rows x h:=by
 unfold jk at e⊢;rw[z5x hm] at e;rw[<- e];refine dX fun r hr=> ?_;have hr' :=cW.mp hr;rw[z15 (cl r hr'.1 (by rw[hr'.2];exact hm))]
theorem zxm{rows:List Rw}{x y:Str ->Rat}{h:Str}(e:∀r∈fM rows h,∀s∈bH rows r.1,x s.2.1=y s.2.1)(q:jk rows x h):jk rows y h:=by
 unfold jk at q⊢;rw[<- q];refine dX fun r hr=> ?_;have hr' :=cW.mp hr;have e1:=e r hr r (aP.mpr ⟨hr'.1,rfl⟩);rw[e1];have e2:ao (bH rows r.1) (fun s=>(s.2.2:Rat) - y s.2.1)=ao (bH rows r.1) fun s=>(s.2.2:Rat) - x s.2.1:=dX fun s hs=>by rw[e r hr s hs]
 rw[e2]
theorem LB.M{rows:List Rw}(L:LB rows)(m:List Str):LB (ofM rows m):=by
 refine⟨zN (List.length_filter_le _ _) L.few,fun r hr=>L.mm r (cA.mp hr).1,fun w=> ?_⟩;rw[z3i];exact zN (List.length_filter_le _ _) (L.wk w)
theorem z33{rows:List Rw}{ws:List Str}{ps:List (List Str×List D)}(B:yU rows ws ps)(u:Uq rows):ps=ws.map fun w=>(kW rows w,(bH rows w).map fun r=> .int r.2.2):=by
 apply List.ext_getElem
 ·rw[List.length_map];exact B.len.symm
 ·intro i h1 h2;have hw:i<ws.length:=by rw[B.len];exact h1
  rw[List.getElem_map];exact B.ex u i ws[i] ps[i] (zX hw) (zX h1)
theorem z12(p:List Str×List D):toD (p8 p)= .dic (p.1.map .inr) p.2:=by
 unfold p8 toD;rw[Kp]
structure Gm (rows:List Rw) (m:List Str) (x:Str ->Rat):Prop where
 ev:∀h∈m,jk rows x h
 em:pZ rows x m
 sz:∀h∈m,Sz 8500 (x h)
theorem Gm.congr{rows:List Rw}{m:List Str}{x y:Str ->Rat}(cl:∀r∈rows,r.2.1∈m ->∀h∈kW rows r.1,h∈m)(g:Gm rows m x)(e:∀h∈m,x h=y h):Gm rows m y:=by
 refine⟨fun h hh=>zxm (fun r hr s hs=>e _ ?_) (g.ev h hh),?_,fun h hh=>by rw[<- e h hh];exact g.sz h hh⟩
 ·have hr' :=cW.mp hr;have hs' :=aP.mp hs;exact cl r hr'.1 (by rw[hr'.2];exact hh) _ (eN.mpr ⟨s,hs'.1,hs'.2,rfl⟩)
 ·have:=g.em;unfold pZ at this⊢;rw[<- this];exact dX fun r hr=>(e _ (cA.mp hr).2).symm
theorem zq8{hs:List Str}{x y:Str ->Rat}(e:∀h∈hs,x h=y h):cZ hs x=cZ hs y:=by
 unfold cZ;rw[List.map_congr_left (g:=fun h=>qD (y h)) fun h hh=>by rw[e h hh]]
theorem zpx{hs:List Str}{h:Str}{x:Str ->Rat}(n:h∉hs):T.dic (eF (hs.map .inr) (.inr h)) ((bZ (hs.map .inr) (hs.map fun h=>qD (x h)) (.inr h) (qD (x h))).map .leaf)=cZ (hs++ [h]) x:=by
 rw[zmo];unfold iZ bZ cZ;rw[if_neg n,zj,decide_eq_false n,if_neg Bool.false_ne_true];simp
theorem Ht{α:Type}{l:List α}{i:Nat}(h:i<l.length):l.take (i+1)=l.take i++ [l[i]]:=by rw[List.take_add_one,List.getElem?_eq_getElem h];rfl
theorem mW.hand{rows:List Rw}{ms:List (List Str)}(G:mW rows ms){m:List Str}(hm:m∈ms){x:Str}(hx:x∈m):∃r∈rows,r.2.1=x:=by
 obtain⟨Ss,F,p⟩:=G.pi;obtain⟨S,hS,hs⟩:=(p.co x).mp ⟨m,hm,hx⟩;obtain⟨r,hr,e⟩:=F.of S hS;obtain⟨r',hr',_,e2⟩:=aU.mp ((e x).mp hs);exact⟨r',hr',e2⟩
theorem zq9{K:W.Frag}{c:Cls}{ds Q Ex}(h:za c ds Q Ex):zie K c (tK Q) (aJ 6 ds) fun _=>Ex:=by
 obtain⟨rows,U,rfl,u,L,hU,hr,h⟩:=h;have s1:=vp;have few:=L.few;intro as;show zfx K c (tK Q) [.pu (aK rows),.tr as (.dic [] []),.no,.no,.no,.no] fun _=>Ex;refine⟨rows,U,rfl,by omega,by omega,hr,fun ms G=> ?_⟩
 simp only [z2c];obtain⟨Ss,F,p⟩:=G.pi;have nd:ms.flatten.Nodup:=Gh p.dj fun f hf=>vA (G.sr f hf);refine⟨fun i Γ=>∃(as:List Addr) (x:Str ->Rat) (y2 y3 y4 y5:Slot),(∀m∈ms.take i,Gm rows m x)/\Γ= [.pu (aK rows),.tr as (cZ (ms.take i).flatten x),y2,y3,y4,y5],⟨as,fun _=>0,_,_,_,_,fun m hm=>by simp at hm,rfl⟩,?_,?_⟩
 ·rintro i d _ hi ⟨as,x,y2,y3,y4,y5,hg,rfl⟩;have hi' :i<ms.length:=by
   have:=(zU.mp hi).1
   rwa [List.length_map] at this
  rw[List.getElem?_map,List.getElem?_eq_getElem hi'] at hi;cases hi;have hm:ms[i]∈ms:=yX hi';have apart:∀h∈ms[i],h∉ (ms.take i).flatten:=fun h hh z=>by
   have:=nd;rw[<- List.take_append_drop i ms,List.flatten_append,List.nodup_append] at this;refine this.2.2 h z h ?_ rfl;refine List.mem_flatten.mpr ⟨ms[i],?_,hh⟩;rw[List.drop_eq_getElem_cons hi'];exact zW
  have cl:=(G.sys u hm).1;have tk:ms.take (i+1)=ms.take i++ [ms[i]]:=Ht hi';have fl:(ms.take (i+1)).flatten=(ms.take i).flatten++ms[i]:=by rw[tk,List.flatten_append];simp
  generalize em:ms[i]=m at*;have sub:∀z∈m,z∈U:=fun z hz=>by
   obtain⟨r,h1,h2⟩:=G.hand hm hz;rw[<- h2];exact hr r h1
  have Kv:m.Nodup:=vA (G.sr m hm);have TV:m.length<=12:=zN (wz Kv sub) hU;show zeq K c _ [.pu (aK rows),.tr as (cZ (ms.take i).flatten x),.pu (gl m),y3,y4,y5] _;show aQ _ (rows.map jw) _;refine vq jw jw (fun r=>decide (r.2.1∈m)) (fun r hr P hp=> ?_) ?_
  ·refine⟨.str r.2.1,uT (j:=1) rfl,rfl,Hl m,?_⟩;show if (if false then _ else inD (.str r.2.1) (m.map .str))=true then _ else _;rw[BP];by_cases q:r.2.1∈m
   ·rw[decide_eq_true q] at hp⊢;exact hp
   ·rw[decide_eq_false q] at hp⊢;exact hp
  refine⟨ofM rows m,rfl,zN (List.length_filter_le _ _) (by omega),fun ws ps B=> ?_⟩
  have ep:=z33 B (u.M m);have ex:d8 (ps.map p8)=ws.map (uJ (ofM rows m)):=by
   rw[Kq,ep,List.map_map];exact List.map_congr_left fun w _=>z12 _
  refine⟨ws.map .inr,d8 (ps.map p8),by simp only [toD];rfl,?_⟩
  rw[ex];have W:n8 (ofM rows m) ws:=⟨zN B.lw (L.M m).few,fun w hw z=>by
   obtain⟨r,h1,h2⟩:=(B.wm w).mp hw;have:=aP.mpr ⟨h1,h2⟩;rw[z] at this;cases this⟩
  show zdr K c _ [.pu (aK rows),.tr as (cZ (ms.take i).flatten x),.pu (gl m),.pu (jR (ofM rows m) ws),y4,y5] _;refine⟨ofM rows m,ws,m,rfl,(G.sys u hm).2 ws B.nd B.wm,L.M m,W,p.ne m hm,TV,fun xm ev sm sz=> ?_⟩
  let x' :Str ->Rat:=fun z=>if z∈m then xm z else x z
  have ex1:∀z∈m,x' z=xm z:=fun z hz=>if_pos hz;have ex0:∀z∈ (ms.take i).flatten,x' z=x z:=fun z hz=>if_neg fun q=>apart z q hz;have gm:Gm rows m x' :=Gm.congr cl ⟨fun z hz=>z5g cl hz (ev z hz),sm,sz⟩ fun z hz=>(ex1 z hz).symm;have gms:∀f∈ms.take (i+1),Gm rows f x' :=fun f hf=>by
   rw[tk] at hf;rcases zR.mp hf with hf | hf
   ·exact Gm.congr (G.sys u (List.mem_of_mem_take hf)).1 (hg f hf) fun z hz=>(ex0 z (List.mem_flatten.mpr ⟨f,hf,hz⟩)).symm
   ·rw[List.mem_singleton.mp hf];exact gm
  have ez:jQ (m.map D.str) (m.map fun h=>qD (xm h))=m.map fun h=> .tup [.str h,qD (x' h)]:=by
   unfold jQ;apply List.ext_getElem
   ·simp
   ·intro j h1 h2;simp only [List.getElem_zipWith,List.getElem_map];rw[ex1 _ (List.getElem_mem _)]
  show jW (jQ (m.map D.str) (m.map fun h=>qD (xm h))) (iD 2 (aW (hName 4) (aW (hName 5) iC))) (zev K c) _ _ [.pu (aK rows),.tr as (cZ (ms.take i).flatten x),.pu (gl m),.pu (jR (ofM rows m) ws),y4,y5];rw[ez];have fll:(ms.take i).flatten.length+m.length<=1000:=by
   have h1:((ms.take (i+1)).flatten).Nodup:=by
    rw[<- List.take_append_drop (i+1) ms,List.flatten_append,List.nodup_append] at nd;exact nd.1
   have:=wz h1 (U:=U) fun z hz=>by
    obtain⟨f,hf,hzf⟩:=List.mem_flatten.mp hz;obtain⟨r,g1,g2⟩:=G.hand (List.mem_of_mem_take hf) hzf;rw[<- g2];exact hr r g1
   rw[fl,List.length_append] at this;omega
  refine⟨fun j Γ=>∃(as:List Addr) (y4 y5:Slot),Γ= [.pu (aK rows),.tr as (cZ ((ms.take i).flatten++m.take j) x'),.pu (gl m),.pu (jR (ofM rows m) ws),y4,y5],⟨as,y4,y5,?_⟩,?_,?_⟩
  ·rw[List.take_zero,List.append_nil,zq8 fun z hz=>ex0 z hz]
  ·rintro j d _ hj ⟨as,z4,z5,rfl⟩;have hj' :j<m.length:=by
    have:=(zU.mp hj).1
    rwa [List.length_map] at this
   rw[List.getElem?_map,List.getElem?_eq_getElem hj'] at hj;cases hj;have nn:m[j]∉ (ms.take i).flatten++m.take j:=fun z=>by
    rcases zR.mp z with z | z
    ·exact apart _ (yX hj') z
    ·have key:=List.pairwise_iff_getElem.mp Kv;obtain⟨q,hq,e⟩:=List.mem_iff_getElem.mp z;rw[List.length_take] at hq;rw[List.getElem_take] at e;exact key q j (by omega) hj' (by omega) e
   refine⟨rfl,rfl,⟨as,_,rfl⟩,.inr m[j],as,_,((ms.take i).flatten++m.take j).map fun h=>qD (x' h),rfl,rfl,?_,?_⟩
   ·rw[List.length_map,List.length_append,List.length_take];omega
   ·refine⟨as,.pu (.str m[j]),.pu (qD (x' m[j])),?_⟩;show [Slot.pu (aK rows),Slot.tr as (T.dic (eF (((ms.take i).flatten++m.take j).map .inr) (.inr m[j])) ((bZ (((ms.take i).flatten++m.take j).map .inr) (((ms.take i).flatten++m.take j).map fun h=>qD (x' h)) (.inr m[j]) (qD (x' m[j]))).map .leaf)),_,_,_,_]=_;rw[zpx nn,List.append_assoc,<- Ht hj']
  ·rintro _ ⟨as,z4,z5,rfl⟩;rw[List.length_map,List.take_length,<- fl];exact⟨as,x',_,_,_,_,gms,rfl⟩
 ·rintro _ ⟨as,x,y2,y3,y4,y5,hg,rfl⟩;rw[List.length_map,List.take_length] at hg⊢;exact h ms x ⟨G,fun m hm=>(hg m hm).ev,fun m hm=>(hg m hm).em,fun m hm=>(hg m hm).sz⟩
theorem zpf(xs:List Str):bR (gl xs) (.lst [])=xs.isEmpty:=by
 unfold gl;cases xs with
 | nil=>rfl
 | cons x xs=>simp [bR,bY]
theorem znc{g one:List Str}:(g.filter fun x=>decide (x∈one)).isEmpty= !aF g one:=by
 cases q:aF g one with
 | true=>
  obtain⟨x,h1,h2⟩:=bV.mp q;have:x∈g.filter fun x=>decide (x∈one):=zB.mpr ⟨h1,decide_eq_true h2⟩;cases z:g.filter fun x=>decide (x∈one) with
  | nil=>rw[z] at this;cases this
  | cons _ _=>rfl
 | false=>
  have:(g.filter fun x=>decide (x∈one))= []:=List.filter_eq_nil_iff.mpr fun x hx z=>by
   rw[bV.mpr ⟨x,hx,of_decide_eq_true z⟩] at q;cases q
  rw[this];rfl
theorem zrz{g one:List Str}{P:List D ->Prop}{ti:jD}(h:P ((g.filter fun x=>decide (x∈one)).map .str)):aQ (o8 (hName 0) (cT (cB (rC false) (cV 0) (cV 1))) (cV 0) [.no,.pu (gl one)]) (g.map D.str) P:=by
 refine vq D.str D.str (fun x=>decide (x∈one)) (fun x hx P hp=> ?_) h;refine⟨rfl,Hl one,?_⟩;show if (if false then _ else inD (.str x) (one.map .str))=true then P [.str x] else P [];rw[BP];by_cases q:x∈one
 ·rw[decide_eq_true q,if_pos rfl] at hp;simpa [q] using hp
 ·rw[decide_eq_false q,if_neg (by decide)] at hp;simpa [q] using hp
theorem zm1{one:D ->(List D ->Prop) ->Prop}:∀{fs:List (List Str)} {P:List D ->Prop},(∀f∈fs,∀P:List D ->Prop,(∀ms:List Str,ms.Pairwise (fun a b=>gh a b=true) ->(∀x,x∈f↔x∈ms) ->P [gl ms]) ->one (gl f) P) ->
  (∀gs,Alike fs gs ->(∀g∈gs,g.Pairwise fun a b=>gh a b=true) ->P (gs.map gl)) ->aQ one (fs.map gl) P
 | [],_,_,h=>h [] .nil fun _ z=>by cases z
 | f::fs,P,k,h=>k f zW _ fun ms s1 s2=>zm1 (fun g hg=>k g (zV _ hg)) fun gs al sr=>h (ms::gs) (.cons s2 al) fun g hg=>by
   rcases zT.mp hg with rfl | hg
   ·exact s1
   ·exact sr g hg
theorem zmm{fs:List (List Str)}{S:List Str}(d:fs.Pairwise fun a b=>∀x∈a,x∉b){gs:List (List Str)}(hg:∀g∈gs,g∈fs/\aF g S=true){f:List Str}(hf:f∈fs):aF f (S++gs.flatten)=aF f S:=by
 cases q:aF f S with
 | true=>
  obtain⟨x,h1,h2⟩:=bV.mp q;exact bV.mpr ⟨x,h1,zO _ h2⟩
 | false=>
  cases z:aF f (S++gs.flatten) with
  | false=>rfl
  | true=>
   obtain⟨x,h1,h2⟩:=bV.mp z;rcases zR.mp h2 with h2 | h2
   ·rw[bV.mpr ⟨x,h1,h2⟩] at q;cases q
   ·obtain⟨g,hg',xg⟩:=List.mem_flatten.mp h2;obtain⟨g1,g2⟩:=hg g hg';have:=Bq d hf g1 h1 xg;subst this;rw[g2] at q;cases q
theorem zjg{p:List Str ->Bool}:∀fs:List (List Str),(fs.filter p).flatten.length+ (fs.filter fun f=> !p f).flatten.length=fs.flatten.length
 | []=>by simp
 | f::fs=>by
  have:=zjg (p:=p) fs;rw[List.filter_cons,List.filter_cons];cases q:p f<;>simp only [Bool.not_true,Bool.not_false,Bool.false_eq_true,if_true,if_false,List.flatten_cons,List.length_append]<;>omega
theorem zmh{K:W.Frag}{c:Cls}{ds Q Ex}(h:G5 c ds Q Ex):zfv K c (fin Q) (aJ 7 ds) fun _=>Ex:=by
 obtain⟨rows,U,m,rfl,hU,hu,hm,hl,h⟩:=h;have line:(10000:Nat)<=sizeLine:=by decide
 refine⟨Nat.zero_le _,?_⟩;have few:∀i,∀S∈ (rows.take i).map (fun r=>r.2.1::eO rows r.1),∀x∈S,x∈U:=fun i S hS x hx=>by
  obtain⟨r,hr,rfl⟩:=zE.mp hS;rcases zT.mp hx with rfl | hx
  ·exact hu r (List.mem_of_mem_take hr)
  ·obtain⟨r',h1,_,h3⟩:=aU.mp hx;exact h3 ▸ hu r' h1
 refine⟨fun i Γ=>∃fs x1 x2 x3 x4 x5,dU ((rows.take i).map fun r=>r.2.1::eO rows r.1) fs/\fs.flatten.length<=i* (1+m)/\Γ= [.pu (aK rows),.pu (.lst (fs.map gl)),x1,x2,x3,x4,x5],⟨[],_,_,_,_,_,by simpa using dU.nil,by simp,rfl⟩,?_,?_⟩
 ·rintro i d _ hi ⟨fs,x1,x2,x3,x4,x5,p,hfl,rfl⟩;have hi' :i<rows.length:=by
   have:=(zU.mp hi).1
   rwa [List.length_map] at this
  rw[List.getElem?_map,List.getElem?_eq_getElem hi'] at hi;cases hi;have tk:rows.take (i+1)=rows.take i++ [rows[i]]:=by rw[List.take_add_one,List.getElem?_eq_getElem hi'];rfl
  have hml:=hm rows[i].1;have hb:i* (1+m)+ (1+m)<4000:=by
   have h1:(i+1)* (1+m)<=rows.length* (1+m):=Nat.mul_le_mul_right _ hi';rw[Nat.succ_mul] at h1;omega
  have l3:=Ho p.ne;refine⟨rfl,rfl,by show(1:Nat)<=sizeLine;omega,?_⟩
  show aQ _ (rows.map jw) _;refine vq jw (fun r=> .str r.2.1) (fun r=>decide (r.1=rows[i].1)) (fun r hr P hp=> ?_) ?_
  ·refine⟨rfl,rfl,by simp [gP],?_⟩
   show if bR (.str r.1) (.str rows[i].1)=true then P [.str r.2.1] else P [];rw[zf];by_cases q:r.1=rows[i].1
   ·rw[decide_eq_true q,if_pos rfl] at hp⊢;exact hp
   ·rw[decide_eq_false q,if_neg (by decide)] at hp⊢;exact hp
  ·have e0:(rows.filter fun r=>decide (r.1=rows[i].1)).map (fun r=>D.str r.2.1)=(eO rows rows[i].1).map .str:=by unfold eO;rw[List.map_map];rfl
   rw[e0];refine⟨by show 1+ ((eO rows rows[i].1).map D.str).length<=sizeLine;rw[List.length_map];omega,?_⟩
   let S:=rows[i].2.1::eO rows rows[i].1
   have hS:S.length<=1+m:=by show(eO rows rows[i].1).length+1<=_;omega
   have gsm:∀j,∀g∈ (fs.take j).filter (fun f=>aF f S),g∈fs/\aF g S=true:=fun j g hg=>by
    obtain⟨h1,h2⟩:=zB.mp hg;exact⟨List.mem_of_mem_take h1,h2⟩
   refine⟨fun j Γ=>∃x,Γ= [.pu (aK rows),.pu (.lst (fs.map gl)),.pu (.str rows[i].1),.pu (.str rows[i].2.1),.pu (.int rows[i].2.2),.pu (gl (S++ ((fs.take j).filter fun f=>aF f S).flatten)),x],⟨_,by simp [S,gl];rfl⟩,?_,?_⟩
   ·rintro j d _ hj ⟨x,rfl⟩;have hj' :j<fs.length:=by
     have:=(zU.mp hj).1
     rwa [List.length_map] at this
    rw[List.getElem?_map,List.getElem?_eq_getElem hj'] at hj;cases hj;have tj:fs.take (j+1)=fs.take j++ [fs[j]]:=by rw[List.take_add_one,List.getElem?_eq_getElem hj'];rfl
    show aQ (o8 (hName 0) (cT (cB (rC false) (cV 0) (cV 1))) (cV 0) [.no,.pu (gl (S++ ((fs.take j).filter fun f=>aF f S).flatten))]) (fs[j].map D.str) _;refine zrz (ti:=hName 0) ⟨Nat.zero_le _,zvf _,?_⟩;show if (!bR (gl (fs[j].filter fun x=>decide (x∈S++ ((fs.take j).filter fun f=>aF f S).flatten))) (.lst []))=true then _ else _;rw[zpf,znc,Bool.not_not,zmm p.dj (gsm j) (List.getElem_mem hj')];by_cases q:aF fs[j] S=true
    ·rw[if_pos q];have h1:=Ko (p:=fun f=>aF f S) (fs.take j);have h2:=zgp fs (j+1);rw[tj,List.flatten_append,List.length_append] at h2;simp only [List.flatten_cons,List.flatten_nil,List.append_nil] at h2;refine⟨?_,.pu (gl fs[j]),?_⟩
     ·show((S++_).map D.str).length+ (fs[j].map D.str).length<=sizeLine;rw[List.length_map,List.length_append,List.length_map];omega
     ·rw[tj,List.filter_append,List.flatten_append];simp only [List.filter_cons,q,if_true,List.filter_nil,List.flatten_cons,List.flatten_nil,List.append_nil];unfold gl;rw[<- List.append_assoc,List.map_append (l₂:=fs[j])]
      rfl
    ·rw[if_neg q];refine⟨.pu (gl fs[j]),?_⟩;rw[tj,List.filter_append,List.flatten_append];simp only [List.filter_cons,q,Bool.false_eq_true,if_false,List.filter_nil,List.flatten_nil,List.append_nil]
     rfl
   ·rintro _ ⟨x,rfl⟩;have e:fs.take (fs.map gl).length=fs:=by rw[List.length_map,List.take_length]
    rw[e];have gsf:=gsm fs.length;rw[List.take_length] at gsf;dsimp only;unfold zco;show aQ _ (fs.map gl) _;refine vq gl gl (fun f=> !aF f S) (fun f hf P hp=> ?_) ?_
    ·show aQ (o8 (hName 0) (cT (cB (rC false) (cV 0) (cV 1))) (cV 0) [.no,.pu (gl (S++ (fs.filter fun f=>aF f S).flatten))]) (f.map D.str) _;refine zrz (ti:=hName 0) ⟨Nat.zero_le _,zvf _,?_⟩;show if bR (gl (f.filter fun x=>decide (x∈S++ (fs.filter fun f=>aF f S).flatten))) (.lst [])=true then P [gl f] else P [];rw[zpf,znc,zmm p.dj gsf hf];exact(by
      by_cases q:(!aF f S)=true
      ·rw[if_pos q] at hp⊢;exact hp
      ·rw[if_neg q] at hp⊢;exact hp)
    ·have hlf:=List.length_filter_le (fun f=> !aF f S) fs;refine⟨by show(1:Nat)<=sizeLine;omega,by show((fs.filter fun f=> !aF f S).map gl).length+1<=sizeLine;rw[List.length_map];omega,?_⟩
     refine⟨fs.filter (fun f=> !aF f S)++ [S++ (fs.filter fun f=>aF f S).flatten],_,_,_,_,_,?_,?_,by rw[List.map_append];rfl⟩
     ·rw[tk,List.map_append];refine p.step (S:=S) (List.cons_ne_nil _ _) fun x=> ?_;rw[List.mem_append,List.mem_flatten];constructor
      ·rintro(a | ⟨f,hf,a⟩)
       ·exact .inl a
       ·obtain⟨h1,h2⟩:=zB.mp hf;exact .inr ⟨f,h1,h2,a⟩
      ·rintro(a | ⟨f,h1,h2,a⟩)
       ·exact .inl a
       ·exact .inr ⟨f,zB.mpr ⟨h1,h2⟩,a⟩
     ·have:=zjg (p:=fun f=>aF f S) fs;rw[List.flatten_append,List.length_append];simp only [List.flatten_cons,List.flatten_nil,List.append_nil,List.length_append];rw[Nat.succ_mul];omega
 ·rintro _ ⟨fs,x1,x2,x3,x4,x5,p,hfl,rfl⟩;have e:rows.take (rows.map jw).length=rows:=by rw[List.length_map,List.take_length]
  rw[e] at p;rw[List.length_map] at hfl;have tL :=few rows.length;rw[List.take_length] at tL;show aQ _ (fs.map gl) _;refine zm1 (fun f hf P hp=> ?_) fun gs al sr=> ?_
  ·refine(show Bo [gl f] fun es=>P [.lst es] from zsy (U:=U) ?_ hU (Tq p tL f hf) fun ms s1 s2=>hp ms s1 fun x=>(s2 x).symm);have:f.length<=fs.flatten.length:=by
    obtain⟨a,b,rfl⟩:=List.append_of_mem hf;simp only [List.flatten_append,List.flatten_cons,List.length_append];omega
   omega
  ·have p' :=p.alike al;have l2:=Tr p' (fun f hf=>vA (sr f hf)) tL;have l3:=Ho p'.ne;refine⟨gs,rfl,p'.ne,Tn p'.ne p'.dj,by omega,fun ms pm up=>h ms ⟨fun m hm=>sr m (pm.mem_iff.mp hm),up,_,⟨fun S hS=> ?_,fun r hr=> ?_⟩,p'.perm pm⟩⟩
   ·obtain⟨r,hr,rfl⟩:=zE.mp hS;refine⟨r,hr,fun x=>⟨fun hx=> ?_,fun hx=>zV _ hx⟩⟩;rcases zT.mp hx with rfl | hx
    ·exact aU.mpr ⟨r,hr,rfl,rfl⟩
    ·exact hx
   ·refine⟨_,zE.mpr ⟨r,hr,rfl⟩,fun x=>⟨fun hx=> ?_,fun hx=>zV _ hx⟩⟩;rcases zT.mp hx with rfl | hx
    ·exact aU.mpr ⟨r,hr,rfl,rfl⟩
    ·exact hx
theorem uL{n:Nat}(i j:Int):gP n (.int i) (.int j):=by cases n<;>simp [gP]
theorem zll{K:W.Frag}{c:Cls}{ds Q Ex}(h:G6 c ds Q Ex):Kd K c (fin Q) (aJ 5 ds) fun _=>Ex:=by
 obtain⟨a,b,d,e,n,rfl,he,h⟩:=h;show Kd K c (fin Q) [.pu (.int a),.pu (.int b),.pu (.int d),.pu (.int e),.pu (.int n)] fun _=>Ex;unfold Kd
 and_intros
 refine⟨uL _ _,?_⟩;split
 ·exact⟨by decide,h _⟩
 ·unfold zdy
  and_intros
  refine⟨uL _ _,?_⟩;split
  ·refine⟨he,uL _ _,?_⟩;cases bR (.int d) (.int (b.fmod e)) with
   | true=>exact h true
   | false=>exact⟨he,uL _ _,h _⟩
  ·unfold zd4
   and_intros
   refine⟨uL _ _,?_⟩;split
   ·refine⟨by decide,by decide,uL _ _,?_⟩
    cases bR (.int (b.fmod 2)) (.int (d.fmod 2)) with
    | true=>exact⟨by decide,h _⟩
    | false=>exact h false
   ·exact h true
theorem wK:(Str.ofString "abcdefghijklmnopqrstuvwxyz").cps.toList= [97,98,99,100,101,102,103,104,105,106,107,108,109,110,111,112,113,114,115,116,117,118,119,120,121,122]:=by decide+kernel
theorem zp:(Str.ofString "abcdefghijklmnopqrstuvwxyz").length=26:=by
 show(Str.ofString "abcdefghijklmnopqrstuvwxyz").cps.size=26;rw[<- Array.length_toList,wK];rfl
def uM(b:Bool):Int:=if b then 1 else 0
theorem wL{i:Int}{k:Nat}(h:i.natAbs<2^k)(hk:k<=9000:=by decide):bD i<=9000:=zN (gU h) hk
theorem z1b(rs:List Rw){k:Nat}(h:k<=rs.length):cutD (rs.map jw) (some (k:Int)) none=(rs.drop k).map jw:=by
 unfold cutD HT.sIx;simp only [List.length_map];rw[if_neg (by omega),Int.toNat_natCast,Nat.min_eq_left h,<- List.map_drop,<- List.map_take,List.take_of_length_le (by rw[List.length_drop];omega)]
theorem zz1(rs:List Rw){k:Nat}(h:k<=rs.length):cutD (rs.map jw) none (some (k:Int))=(rs.take k).map jw:=by
 unfold cutD HT.sIx;simp only [List.length_map];rw[if_neg (by omega),Int.toNat_natCast,Nat.min_eq_left h,List.drop_zero,Nat.sub_zero,<- List.map_take]
theorem TX{α:Type}{f:α ->D}{xs:List α}{k:Nat}(h:k<xs.length):jC (xs.map f) (k:Int)=some (f xs[k]):=uT (by rw[List.getElem?_map,List.getElem?_eq_getElem h];rfl)
theorem Hu{k:Nat}(h:k<26):jC (Str.ofString "abcdefghijklmnopqrstuvwxyz").cps.toList (k:Int)=some (97+k):=by
 refine uT ?_;rw[wK];have:∀k:Fin 26,[97,98,99,100,101,102,103,104,105,106,107,108,109,110,111,112,113,114,115,116,117,118,119,120,121,122][k.1]?=some (97+k.1):=by decide
 exact this ⟨k,h⟩
theorem Hv{i:Int}(h:0<=i/\i<26):jC (Str.ofString "abcdefghijklmnopqrstuvwxyz").cps.toList i=some (97+i.toNat):=by
 have e:i=((i.toNat:Nat):Int):=by omega
 have:=Hu (k:=i.toNat) (by omega)
 rw[<- e] at this;exact this
def txt(n:Nat)(f:Nat ->Nat):Str:=⟨((List.range n).map f).toArray⟩
theorem zxi(n:Nat)(f:Nat ->Nat):txt n f++ (⟨#[f n]⟩:Str)=txt (n+1) f:=by
 show(⟨((List.range n).map f).toArray++ #[f n]⟩:Str)=⟨((List.range (n+1)).map f).toArray⟩
 congr 1
 rw[List.range_succ,List.map_append];simp
theorem z00{n m:Nat}{f g:Nat ->Nat}(h:txt n f=txt m g):n=m/\∀j,j<n ->f j=g j:=by
 have e:(List.range n).map f=(List.range m).map g:=by
  have:=congrArg (fun s:Str=>s.cps.toList) h
  simpa [txt] using this
 have l:n=m:=by simpa using congrArg List.length e
 subst l;refine⟨rfl,fun j hj=> ?_⟩;have:=congrArg (fun l=>l[j]?) e
 simpa [hj] using this
theorem z1l(n:Nat)(f:Nat ->Nat):(txt n f).length=n:=by
 show((List.range n).map f).toArray.size=n;simp
theorem zvx{α:Type}{g:Nat ->α}{m:Nat}(h:∀i j,i<m ->j<m ->g i=g j ->i=j):((List.range m).map g).Nodup:=by
 refine J7 (R:=fun a b=>a≠b) List.nodup_range fun a ha b hb n e=>n (h a b (List.mem_range.mp ha) (List.mem_range.mp hb) e)
theorem zo8{K:W.Frag}{c:Cls}{ds Q Ex}(h:BK c ds Q Ex):Kc K c (fin Q) (aJ 10 ds) fun _=>Ex:=by
 obtain⟨n,m,rfl,hm,h⟩:=h;have line:(1000:Nat)<=sizeLine:=by decide
 let L:Str:=Str.ofString "abcdefghijklmnopqrstuvwxyz"
 have main:∀sz:Nat,1<=sz/\sz<=8 ->SN K c (fin Q) [.pu (.int n),.pu (.int m),.pu (.str L),.pu (.int sz),.no,.no,.no,.no,.no,.no] fun _=>Ex:=by
  intro sz hsz;unfold SN
  and_intros
  refine⟨⟨by decide,zN (gU (k:=5) (by decide)) (by decide)⟩,by omega,?_⟩
  obtain⟨at_,ea,hat⟩:=zc (i:=n.fdiv 24) (n:=sz) (by omega)
  rw[ea]
  let one:Bool:=decide (n.fmod 3=1)
  let num:Nat ->Int:=fun j=>(n.fdiv 24*48271+ (j:Int)* (j:Int)*69621+ (j:Int)*7).fmod 2147483647
  let f:Nat ->Nat ->Nat:=fun k j=>97+ ((num j+ (k:Int)*uM (decide ((j:Int)=(at_:Int))&& !one)).fmod 26).toNat
  let ln:Nat ->Nat:=fun k=>sz+k* (if one=true then 1 else 0)
  have Bl:∀k,k<20 ->ln k<=28:=fun k hk=>by
   show sz+k* (if one=true then 1 else 0)<=28;split<;>omega
  let nm:Nat ->Str:=fun k=>txt (ln k) (f k)
  have inj:∀i j,i<m ->j<m ->nm i=nm j ->i=j:=fun i j hi hj e=>by
   obtain⟨e1,e2⟩:=z00 e;have e1' :sz+i* (if one=true then 1 else 0)=sz+j* (if one=true then 1 else 0):=e1;by_cases o:one=true
   ·rw[if_pos o] at e1';omega
   ·have e3:=e2 at_ (by show at_<sz+_;omega)
    have e3' :97+ ((num at_+ (i:Int)*uM (decide ((at_:Int)=(at_:Int))&& !one)).fmod 26).toNat=97+ ((num at_+ (j:Int)*uM (decide ((at_:Int)=(at_:Int))&& !one)).fmod 26).toNat:=e3;rw[decide_eq_true rfl] at e3';have ob:one=false:=by simpa using o
    rw[ob] at e3';have l1:=BL (i:=num at_+ (i:Int)*uM (true&& !false)) (m:=26) (by decide)
    have l2:=BL (i:=num at_+ (j:Int)*uM (true&& !false)) (m:=26) (by decide)
    have b1:uM (true&& !false)=1:=rfl;rw[b1,Int.mul_one] at l1 l2;rw[b1,Int.mul_one,Int.mul_one] at e3';rw[Int.fmod_eq_emod_of_nonneg _ (by decide)] at e3' l1 l2
    rw[Int.fmod_eq_emod_of_nonneg _ (by decide)] at e3'
    omega
  unfold zew
  and_intros
  refine⟨Nat.zero_le _,?_⟩;unfold zer;refine⟨⟨by omega,by omega⟩,fun k Γ=>∃(x1 x2 x3 x4:Slot),Γ= [.pu (.int n),.pu (.int m),.pu (.str L),.pu (.int sz),.pu (.int at_),.ow (((List.range k).map nm).map .str),x1,x2,x3,x4],⟨_,_,_,_,rfl⟩,?_,?_⟩
  ·rintro k _ hk ⟨x1,x2,x3,x4,rfl⟩;have TY:k<20:=by omega
   show SM K c _ [.pu (.int n),.pu (.int m),.pu (.str L),.pu (.int sz),.pu (.int at_),.ow (((List.range k).map nm).map .str),.pu (.int (0+ (k:Int))),x2,x3,x4] _;rw[Int.zero_add];unfold SM
   and_intros
   unfold zc0
   and_intros
   refine⟨by show(3:Int)≠0;decide,uL _ _,?_⟩
   and_intros
   rw[Hi];have hb:(if decide (n.fmod 3=1)=true then(1:Int) else 0)=((if one=true then 1 else 0:Nat):Int):=by
    show(if one=true then(1:Int) else 0)=_;split<;>rfl
   rw[hb];refine⟨.inl (zN (gU (k:=5) (by omega)) (by decide)),?_⟩
   have hr:(sz:Int)+ (k:Int)* ((if one=true then 1 else 0:Nat):Int)=((ln k:Nat):Int):=by
    show _=((sz+k* (if one=true then 1 else 0):Nat):Int);rw[Int.natCast_add,Int.natCast_mul]
   rw[hr];have abr:=Bl k TY;refine⟨⟨by omega,by omega⟩,fun j Γ=>∃x3 x4,Γ= [.pu (.int n),.pu (.int m),.pu (.str L),.pu (.int sz),.pu (.int at_),.ow (((List.range k).map nm).map .str),.pu (.int k),.pu (.str (txt j (f k))),x3,x4],⟨_,_,rfl⟩,?_,?_⟩
   ·rintro j _ hj ⟨y3,y4,rfl⟩;have abt:j<28:=by omega
    show SJ K c _ [.pu (.int n),.pu (.int m),.pu (.str L),.pu (.int sz),.pu (.int at_),.ow (((List.range k).map nm).map .str),.pu (.int k),.pu (.str (txt j (f k))),.pu (.int (0+ (j:Int))),y4] _;rw[Int.zero_add];have bj:bD (j:Int)<=64:=zN (gU (k:=5) (by omega)) (by decide)
    unfold SJ
    and_intros
    refine⟨⟨by decide,zN (gU (k:=5) (by decide)) (by decide)⟩,.inr (.inl (gU (by decide))),.inl bj,.inr (.inl (gU (by decide))),.inl bj,by decide,?_⟩
    show Sy K c _ [.pu (.int n),.pu (.int m),.pu (.str L),.pu (.int sz),.pu (.int at_),.ow (((List.range k).map nm).map .str),.pu (.int k),.pu (.str (txt j (f k))),.pu (.int j),.pu (.int (num j))] _;unfold Sy
    and_intros
    refine⟨uL _ _,?_⟩;have step:∀t:Bool,t=(decide ((j:Int)=(at_:Int))&& !one) ->o7 (k:Int) (uM t)/\ (26:Int)≠0/\∃ch:Nat,L.length<=sizeLine/\jC L.cps.toList ((num j+ (k:Int)*uM t).fmod 26)=some ch/\ (txt j (f k)).length+ (⟨#[ch]⟩:Str).length<=sizeLine/\∃z3 z4,[Slot.pu (.int n),.pu (.int m),.pu (.str L),.pu (.int sz),.pu (.int at_),.ow (((List.range k).map nm).map .str),.pu (.int k),.pu (.str (txt j (f k)++ (⟨#[ch]⟩:Str))),.pu (.int j),.pu (.int (num j))]= [.pu (.int n),.pu (.int m),.pu (.str L),.pu (.int sz),.pu (.int at_),.ow (((List.range k).map nm).map .str),.pu (.int k),.pu (.str (txt (j+1) (f k))),z3,z4]:=fun t et=>by
     have hch:=Hv (BL (i:=num j+ (k:Int)*uM t) (m:=26) (by decide))
     refine⟨.inl (zN (gU (k:=5) (by omega)) (by decide)),by decide,_,by rw[show L.length=26 from zp];omega,hch,by rw[z1l];show j+1<=sizeLine;omega,.pu (.int j),.pu (.int (num j)),?_⟩
     subst et;rw[show(97+ ((num j+ (k:Int)*uM (decide ((j:Int)=(at_:Int))&& !one)).fmod 26).toNat)=f k j from rfl,zxi]
    rw[Hi];by_cases q:(j:Int)=(at_:Int)
    ·rw[decide_eq_true q];rw[decide_eq_true q] at step;refine⟨by decide,uL _ _,?_⟩
     rw[Hi];exact step _ rfl
    ·rw[decide_eq_false q];rw[decide_eq_false q] at step;exact step false rfl
   ·rintro _ ⟨y3,y4,rfl⟩;rw[Int.toNat_natCast];refine⟨⟨_,rfl⟩,by rw[List.length_map,List.length_map,List.length_range];omega,.pu (.int k),.pu (.str (txt (ln k) (f k))),y3,y4,?_⟩
    rw[List.range_succ,List.map_append,List.map_append]
    rfl
  ·rintro _ ⟨x1,x2,x3,x4,rfl⟩;rw[Int.toNat_natCast];exact h _ (by simp) (zvx inj)
 show Kc K c (fin Q) [.pu (.int n),.pu (.int m),.no,.no,.no,.no,.no,.no,.no,.no] fun _=>Ex;unfold Kc
 and_intros
 unfold zep
 and_intros
 refine⟨⟨by decide,zN (gU (k:=2) (by decide)) (by decide)⟩,by decide,?_⟩
 obtain⟨t8,e8,h8⟩:=zc (i:=n.fdiv 3) (n:=8) (by decide)
 rw[show(n.fdiv 3).fmod 8=(t8:Int) from e8];unfold zeu
 and_intros
 refine⟨by decide,uL _ _,?_⟩
 split
 ·exact main 1 (by omega)
 ·have:=main (1+t8) (by omega)
  rw[Int.natCast_add] at this;exact this
theorem zu5{a b:List Rw}(p:a.Perm b)(u:Uq b):Uq a:=(List.Perm.pairwise_iff (R:=fun(a b:Rw)=>¬(a.1=b.1/\a.2.1=b.2.1)) (fun h z=>h ⟨z.1.symm,z.2.symm⟩) p).mpr u
theorem zrx{K:W.Frag}{c:Cls}{ds Q Ex}(h:G7 c ds Q Ex):Ke K c (fin Q) (aJ 12 ds) fun _=>Ex:=by
 obtain⟨ns,hands,works,rfl,hl,h1,h5,h8,h⟩:=h;have line:(1000:Nat)<=sizeLine:=by decide
 let S:D:= .lst (ns.map .int)
 have main:∀(way most:Int),0<most ->most<=10^12 ->S5 K c (fin Q) [.pu S,.pu (.int hands),.pu (.int works),.pu (.int way),.pu (.int most),.no,.no,.no,.no,.no,.no,.no] fun _=>Ex:=by
  intro way most hm0 hm1;have Hw:most≠0:=by omega
  unfold S5
  and_intros
  refine⟨ns,4,rfl,hl,by omega,_,works,rfl,by omega,fun nms hnm nnd=> ?_⟩
  unfold zfo
  and_intros
  refine⟨ns,5,rfl,hl,by omega,_,hands,rfl,by omega,fun vC hpp pnd=> ?_⟩
  unfold zfl
  and_intros
  refine⟨Nat.zero_le _,?_⟩;unfold zfu;refine⟨⟨by omega,by omega⟩,fun w Γ=>∃(rows:List Rw) (x8 x9 x10:Slot),rows.length<=w*hands/\ (∀r∈rows,r.2.1∈vC)/\ (Uq rows/\ (∀r∈rows,r.2.2.natAbs<2^40)/\∀r∈rows,∃v,v<w/\nms[v]?=some r.1)/\Γ= [.pu S,.pu (.int hands),.pu (.int works),.pu (.int way),.pu (.int most),.pu (.lst (nms.map .str)),.pu (.lst (vC.map .str)),.ow (rows.map jw),x8,x9,x10,.no],⟨[],_,_,_,by simp,fun r hr=>by(cases hr),⟨List.Pairwise.nil,fun r hr=>by(cases hr),fun r hr=>by(cases hr)⟩,rfl⟩,?_,?_⟩
  ·rintro w _ hw ⟨rows,x8,x9,x10,hrl,wM,⟨uq,mk,wv⟩,rfl⟩;have hw8:w<works:=by omega
   have wJ:w*hands<=8*5:=Nat.mul_le_mul (by omega) h5
   show SX K c _ [.pu S,.pu (.int hands),.pu (.int works),.pu (.int way),.pu (.int most),.pu (.lst (nms.map .str)),.pu (.lst (vC.map .str)),.ow (rows.map jw),.pu (.int (0+ (w:Int))),x9,x10,.no] _;rw[Int.zero_add];unfold SX;refine⟨⟨by omega,by omega⟩,fun q Γ=>∃(rows:List Rw) (x9 x10:Slot),rows.length<=w*hands+q/\ (∀r∈rows,r.2.1∈vC)/\ (Uq rows/\ (∀r∈rows,r.2.2.natAbs<2^40)/\∀r∈rows,∃v,nms[v]?=some r.1/\ (v<w\/v=w/\∃o,o<q/\vC[o]?=some r.2.1))/\Γ= [.pu S,.pu (.int hands),.pu (.int works),.pu (.int way),.pu (.int most),.pu (.lst (nms.map .str)),.pu (.lst (vC.map .str)),.ow (rows.map jw),.pu (.int (w:Int)),x9,x10,.no],⟨rows,_,_,hrl,wM,⟨uq,mk,fun r hr=>by obtain⟨v,h1,h2⟩:=wv r hr;exact⟨v,h2,.inl h1⟩⟩,rfl⟩,?_,?_⟩
   ·rintro q _ hq ⟨rows,x9,x10,hrl,wM,⟨uq,mk,wv⟩,rfl⟩;have qX:q<hands:=by omega
    show SQ K c _ [.pu S,.pu (.int hands),.pu (.int works),.pu (.int way),.pu (.int most),.pu (.lst (nms.map .str)),.pu (.lst (vC.map .str)),.ow (rows.map jw),.pu (.int (w:Int)),.pu (.int (0+ (q:Int))),x10,.no] _;rw[Int.zero_add];unfold SQ
    and_intros
    refine⟨.inl (zN (gU (k:=4) (by omega)) (by decide)),ns,6+w*hands+q,?_,hl,by omega,?_⟩
    ·rw[Int.natCast_add,Int.natCast_add,Int.natCast_mul];rfl
    generalize eY ns (6+w*hands+q)=cv;unfold zdq
    and_intros
    refine⟨way,(w:Int),(q:Int),(hands:Int),cv,rfl,by omega,fun t=> ?_⟩
    cases t with
    | false=>exact⟨rows,_,_,by omega,wM,⟨uq,mk,fun r hr=>by obtain⟨v,h1,h2⟩:=wv r hr;exact⟨v,h1,h2.imp id fun⟨a,o,b,c⟩=>⟨a,o,by omega,c⟩⟩⟩,rfl⟩
    | true=>
     refine⟨⟨_,rfl⟩,_,TX (by omega),_,TX (by omega),⟨by decide,wL (k:=4) (by decide)⟩,Hw,?_⟩
     refine⟨by show(3:Nat)<=sizeLine;omega,by rw[List.length_map];omega,rows++ [(nms[w],vC[q],(cv.fdiv 12).fmod most)],_,_,by rw[List.length_append,List.length_singleton];omega,fun r hr=> ?_,⟨?_,fun r hr=> ?_,fun r hr=> ?_⟩,by rw[List.map_append];rfl⟩
     ·rcases zR.mp hr with hr | hr
      ·exact wM r hr
      ·rw[List.mem_singleton.mp hr];exact yX _
     ·refine List.pairwise_append.mpr ⟨uq,List.pairwise_singleton _ _,fun a ha b hb z=> ?_⟩;rw[List.mem_singleton.mp hb] at z;obtain⟨v,h1,h2⟩:=wv a ha;rw[z.1] at h1;obtain⟨hv,ev⟩:=zU.mp h1;have evw:v=w:=Km nnd hv (by omega) ev
      rcases h2 with h2 | ⟨_,o,ho,h3⟩
      ·omega
      ·rw[z.2] at h3;obtain⟨hv',ev'⟩:=zU.mp h3;have:=Km pnd hv' (by omega) ev'
       omega
     ·rcases zR.mp hr with hr | hr
      ·exact mk r hr
      ·rw[List.mem_singleton.mp hr];have l:=BL (i:=cv.fdiv 12) (m:=most) hm0;show((cv.fdiv 12).fmod most).natAbs<2^40;omega
     ·rcases zR.mp hr with hr | hr
      ·obtain⟨v,h1,h2⟩:=wv r hr;exact⟨v,h1,h2.imp id fun⟨a,o,b,c⟩=>⟨a,o,by omega,c⟩⟩
      ·rw[List.mem_singleton.mp hr];exact⟨w,zX _,.inr ⟨rfl,q,by omega,zX _⟩⟩
   ·rintro _ ⟨rows,x9,x10,hrl,wM,⟨uq,mk,wv⟩,rfl⟩;refine⟨rows,_,_,_,?_,wM,⟨uq,mk,fun r hr=> ?_⟩,rfl⟩
    ·rw[Nat.succ_mul];omega
    ·obtain⟨v,h1,h2⟩:=wv r hr;exact⟨v,by rcases h2 with h2 | h2<;>omega,h1⟩
  ·rintro _ ⟨rows,x8,x9,x10,hrl,wM,⟨uq,mk,wv⟩,rfl⟩;have wJ:works*hands<=8*5:=Nat.mul_le_mul h8 h5;have abu:rows.length<=40:=zN hrl (by simpa using wJ)
   dsimp only;unfold zf5
   and_intros
   refine⟨ns,3,rfl,hl,by omega,⟨by decide,wL (k:=3) (by decide)⟩,trivial,?_,?_⟩
   ·rw[List.length_map];omega
   obtain⟨t,et,ht⟩:=zc (i:=(eY ns 3).fdiv 4) (n:=rows.length+1) (Nat.succ_pos _);rw[show(((rows.map jw).length:Nat):Int)+1=((rows.length+1:Nat):Int) by rw[List.length_map];rfl,et]
   unfold zfw
   and_intros
   rw[z1b rows (by omega),zz1 rows (by omega)]
   refine⟨by rw[List.length_map,List.length_map,List.length_drop,List.length_take];omega,?_⟩
   rw[<- List.map_append];have pm:(rows.drop t++rows.take t).Perm rows:=by
    have:=List.perm_append_comm (l₁:=rows.drop t) (l₂:=rows.take t)
    rwa [List.take_append_drop] at this
   refine h (rows.drop t++rows.take t) vC (by rw[List.length_append,List.length_drop,List.length_take];omega) (by omega) (fun r hr=>wM r (pm.mem_iff.mp hr)) (zu5 pm uq) fun r hr=>mk r (pm.mem_iff.mp hr)
 show Ke K c (fin Q) [.pu S,.pu (.int hands),.pu (.int works),.no,.no,.no,.no,.no,.no,.no,.no,.no] fun _=>Ex;unfold Ke
 and_intros
 refine⟨ns,2,rfl,hl,by omega,by decide,?_⟩
 unfold zff
 and_intros
 refine⟨show uQ 10 12 from ⟨by decide,by decide,by decide⟩,by show(4:Nat)<=sizeLine;omega,ns,3,rfl,hl,by omega,by decide,?_⟩
 obtain⟨t,et,ht⟩:=zc (i:=eY ns 3) (n:=4) (by decide)
 rw[show(4:Int)=((4:Nat):Int) from rfl,et]
 match t,ht with
 | 0,_=>exact⟨_,rfl,main _ _ (by decide) (by decide)⟩
 | 1,_=>exact⟨_,rfl,main _ _ (by decide) (by decide)⟩
 | 2,_=>exact⟨_,rfl,main _ _ (by decide) (by decide)⟩
 | 3,_=>exact⟨_,rfl,main _ _ (by decide) (by decide)⟩
theorem zkd{K:W.Frag}{c:Cls}{ds Q Ex}(h:G8 c ds Q Ex):zes K c (fin Q) (aJ 2 ds) fun _=>Ex:=by
 obtain⟨i,j,rfl,h⟩:=h;refine⟨fun m Γ=>∃a b:Int,Γ= [.pu (.int a),.pu (.int b)]/\0<=a/\0<=b/\m=b.natAbs/\Int.gcd a b=Int.gcd i j,⟨_,(if i<0 then -i else i),(if j<0 then -j else j),rfl,by split<;>omega,by split<;>omega,rfl,?_⟩,?_⟩
 ·have e1:(if i<0 then -i else i)=(i.natAbs:Int):=by split<;>omega
  have e2:(if j<0 then -j else j)=(j.natAbs:Int):=by split<;>omega
  rw[e1,e2];rfl
 rintro m _ ⟨a,b,rfl,ha,hb,rfl,hg⟩;show if decide (0<b)=true then _ else _;by_cases hz:0<b
 ·rw[if_pos (by simpa using hz)]
  have h0:b≠0:=by omega
  refine⟨h0,_,RM h0,b,a.fmod b,rfl,hb,?_,rfl,by rw[ZP,hg]⟩
  rw[Int.fmod_eq_emod_of_nonneg _ hb];exact Int.emod_nonneg _ h0
 ·rw[if_neg (by simpa using hz)]
  have:b=0:=by omega
  subst this;rw[Int.gcd_zero_right] at hg;show Q (.int a);have e:a=((Int.gcd i j:Nat):Int):=by omega
  rw[e];exact h
theorem zmt{x:Str ->D}{h:Str}:∀{hs:List Str},dH (hs.map .inr) (hs.map x) (.inr h)=if h∈hs then some (x h) else none
 | []=>rfl
 | g::hs=>by
  rw[List.map_cons,List.map_cons];unfold dH;by_cases q:g=h
  ·rw[if_pos (by rw[q]),if_pos (by rw[q];exact List.mem_cons_self),q]
  ·rw[if_neg (fun z=>q (by injection z)),zmt (hs:=hs)]
   by_cases p:h∈hs
   ·rw[if_pos p,if_pos (List.mem_cons_of_mem _ p)]
   ·rw[if_neg p,if_neg fun z=>by
     rcases zT.mp z with z | z
     ·exact q z.symm
     ·exact p z]
theorem z0r{hs:List Str}{x:Str ->Rat}{h:Str}(hh:h∈hs){P:D ->Prop}(hp:P (qD (x h))):sY (cX hs x) (.str h) P:=
 ⟨_,_,.inr h,_,rfl,rfl,by rw[zmt (x:=fun h=>qD (x h)),if_pos hh],hp⟩
def leI(x:Str ->Rat)(B:Int)(h:Str):Int:=(x h).num*B.fdiv ((x h).den:Int)
def dcT(ws:List Str)(f:Str ->Int):T:= .dic (ws.map .inr) ((ws.map fun w=> .int (f w)).map .leaf)
def abv{α:Type}(l:List α)(f:α ->Int):Int:=(l.map f).sum
structure Met (rows:List Rw) (k:Rw ->Str) (ws:List Str):Prop where
 nd:ws.Nodup
 mem:∀w,w∈ws↔∃r∈rows,k r=w
 len:ws.length<=rows.length
theorem Lean.mem{rows:List Rw}{ms:List (List Str)}{x:Str ->Rat}(G:Lean rows ms x){r:Rw}(hr:r∈rows):r.2.1∈ms.flatten:=by
 obtain⟨Ss,F,p⟩:=G.g.pi;obtain⟨T,hT,e⟩:=F.to r hr;obtain⟨f,hf,hx⟩:=(p.co r.2.1).mpr ⟨T,hT,(e _).mpr (aU.mpr ⟨r,hr,rfl,rfl⟩)⟩;exact List.mem_flatten.mpr ⟨f,hf,hx⟩
theorem Kw(hs:List Str)(x:Str ->Rat):D.dik (hs.map .inr) (d8 ((hs.map fun h=>qD (x h)).map .leaf))=cX hs x:=by rw[Kp];rfl
theorem zt7{K:W.Frag}{c:Cls}{ds Q Ex}(h:G9 c ds Q Ex):zjb K c (fin Q) (aJ 3 ds) fun _=>Ex:=by
 obtain⟨i,j,rfl,b1,b2,hj,h⟩:=h;rw[<- ZX hj] at h;refine⟨i,j,rfl,?_⟩;obtain⟨d0,d1⟩:=zm7 (i:=i) hj;show if decide (j<0)=true then _ else _;by_cases hn:j<0
 ·rw[if_pos (by simpa using hn)]
  have e:dv i j=0 - ((Int.gcd i j:Nat):Int):=by unfold dv;rw[if_pos hn];omega
  exact⟨⟨by rw[<- e];exact d0,by rw[<- e];exact d1 _ b1 b2⟩,⟨by rw[<- e];exact d0,by rw[<- e];exact d1 _ b1 b2⟩,by show(2:Nat)<=sizeLine;decide,by rw[<- e];exact h⟩
 ·rw[if_neg (by simpa using hn)]
  have e:dv i j=((Int.gcd i j:Nat):Int):=by unfold dv;rw[if_neg hn]
  exact⟨⟨by rw[<- e];exact d0,by rw[<- e];exact d1 _ b1 b2⟩,⟨by rw[<- e];exact d0,by rw[<- e];exact d1 _ b1 b2⟩,by show(2:Nat)<=sizeLine;decide,by rw[<- e];exact h⟩
theorem zuc{rows:List Rw}{ms:List (List Str)}{x x' :Str ->Rat}(G:mW rows ms)(ev:∀m∈ms,∀h∈m,jk rows x h)(em:∀m∈ms,pZ rows x m)(ev' :∀m∈ms,∀h∈m,jk rows x' h)(em' :∀m∈ms,pZ rows x' m):∀h∈ms.flatten,x h=x' h:=by
 intro h hh;obtain⟨m,hm,hx⟩:=List.mem_flatten.mp hh;obtain⟨Ss,F,p⟩:=G.pi;have all:∀r∈rows,∃m∈ms,r.2.1∈m:=fun r hr=>by
  obtain⟨S,hS,e⟩:=F.to r hr;exact(p.co r.2.1).mpr ⟨S,hS,(e _).mpr (aU.mpr ⟨r,hr,rfl,rfl⟩)⟩
 refine zu9 (fun r hr=> ?_) (fun r hr=> ?_) (em m hm) (em' m hm) (fun C hC hx=> ?_) (fun g hg=>G.hand hm hg) h hx
 ·obtain⟨m,hm,h⟩:=all r hr;exact ev m hm _ h
 ·obtain⟨m,hm,h⟩:=all r hr;exact ev' m hm _ h
 ·refine p.min C (fun S hS hx b hb=> ?_) m hm hx;obtain⟨a,ha,ca⟩:=hx;obtain⟨r,hr,e⟩:=F.of S hS;obtain⟨r1,h1,h2,h3⟩:=aU.mp ((e a).mp ha);obtain⟨r2,g1,g2,g3⟩:=aU.mp ((e b).mp hb);rw[<- g3];exact hC r1 h1 r2 g1 (h2.trans g2.symm) (by rw[h3];exact ca)
theorem ztl{rows:List Rw}{hd:Str}{b:Int}{w:Str}:eO (rows.map (ju hd b)) w=eO rows w:=by
 unfold eO;rw[List.filter_map,List.map_map];rfl
theorem mW.mv{rows:List Rw}{ms:List (List Str)}(G:mW rows ms)(hd:Str)(b:Int):mW (rows.map (ju hd b)) ms:=by
 obtain⟨Ss,F,p⟩:=G.pi;refine⟨G.sr,G.up,Ss,⟨fun S hS=> ?_,fun r hr=> ?_⟩,p⟩
 ·obtain⟨r,hr,e⟩:=F.of S hS;refine⟨ju hd b r,List.mem_map_of_mem hr,fun x=> ?_⟩;rw[ztl];exact e x
 ·obtain⟨s,hs,rfl⟩:=zE.mp hr;obtain⟨S,hS,e⟩:=F.to s hs;refine⟨S,hS,fun x=> ?_⟩;rw[ztl];exact e x
theorem T3{n:Nat}(a b:Str):gP n (.str a) (.str b):=by cases n<;>simp [gP]
theorem zn4{K:W.Frag}{c:Cls}{ds Q Ex}(h:Hf c ds Q Ex):Kg K c (fin Q) (aJ 7 ds) fun _=>Ex:=by
 obtain⟨rows,hd,b,rfl,hl,h⟩:=h;have s1:=vp;show Kg K c (fin Q) [.pu (aK rows),.pu (.str hd),.pu (.int b),.no,.no,.no,.no] fun _=>Ex;unfold Kg;refine⟨Nat.zero_le _,?_⟩;show jW (rows.map jw) _ (Kf K c) _ _ _;refine⟨fun i Γ=>∃y4 y5 y6:Slot,Γ= [.pu (aK rows),.pu (.str hd),.pu (.int b),.ow (((rows.take i).map (ju hd b)).map jw),y4,y5,y6],⟨_,_,_,rfl⟩,?_,?_⟩
 ·rintro i d _ hi ⟨y4,y5,y6,rfl⟩;have hi' :i<rows.length:=by
   have:=(zU.mp hi).1
   rwa [List.length_map] at this
  rw[List.getElem?_map,List.getElem?_eq_getElem hi'] at hi;cases hi;have sn:=Ht hi';generalize rows[i]=r at sn⊢;refine⟨rfl,rfl,?_⟩;show Kf K c _ [.pu (aK rows),.pu (.str hd),.pu (.int b),.ow (((rows.take i).map (ju hd b)).map jw),.pu (.str r.1),.pu (.str r.2.1),.pu (.int r.2.2)] _;unfold Kf
  and_intros
  refine⟨⟨_,rfl⟩,T3 _ _,.inr (.inl ?_),by show(3:Nat)<=sizeLine;omega,?_,.pu (.str r.1),.pu (.str r.2.1),.pu (.int r.2.2),?_⟩
  ·rw[zf];split<;>exact gU (by decide)
  ·rw[List.length_map,List.length_map,List.length_take];omega
  ·rw[sn,List.map_append,List.map_append,zf];by_cases q:r.2.1=hd
   ·simp [q,ju,jw]
   ·simp [q,ju,jw]
 ·rintro _ ⟨y4,y5,y6,rfl⟩;rw[List.length_map,List.take_length];exact h
theorem z24{x:Rat}{b:Int}{δ:Int}{own many:Nat}(m0:0<many):((x.num* (many:Int)+ ((x.den:Int)*b)* ((many:Int)*δ - (own:Int)):Int):Rat)/ (((x.den:Int)* (many:Int):Int):Rat)=x+ (b:Rat)* ((δ:Rat) - (own:Rat)/ (many:Rat)):=by
 obtain⟨n1,n2⟩:=Tf x;have dp:=x.den_pos;have d0:((x.den:Int):Rat)≠0:=fun z=>by
  have:(x.den:Int)=0:=by exact_mod_cast z
  omega
 have k0:((many:Int):Rat)≠0:=fun z=>by
  have:(many:Int)=0:=by exact_mod_cast z
  omega
 have c1:(many:Rat)=((many:Int):Rat):=by exact_mod_cast rfl
 have c2:(own:Rat)=((own:Int):Rat):=by exact_mod_cast rfl
 rw[c1,c2,Rat.intCast_add,Rat.intCast_mul,Rat.intCast_mul,Rat.intCast_mul,Rat.intCast_mul,Rat.intCast_sub,Rat.intCast_mul,n1];generalize ((x.den:Int):Rat)=d at d0;generalize ((many:Int):Rat)=n at k0;generalize ((own:Int):Rat)=o;generalize ((δ:Int):Rat)=e;generalize ((b:Int):Rat)=c;have i1:=Rat.mul_inv_cancel _ d0;have i2:=Rat.mul_inv_cancel _ k0;rw[Rat.div_def,Rat.div_def,Rat.inv_mul_rev];have:(x*d*n+d*c* (n*e - o))* (n⁻¹*d⁻¹)=x* (d*d⁻¹)* (n*n⁻¹)+c* ((n*n⁻¹)*e - o*n⁻¹)* (d*d⁻¹):=by grind
 rw[this,i1,i2];grind
theorem z0d(x:Rat):((x.num:Int):Rat)/ ((x.den:Int):Rat)=x:=by
 obtain⟨n1,n2⟩:=Tf x;have dp:=x.den_pos;have d0:((x.den:Int):Rat)≠0:=fun z=>by
  have:(x.den:Int)=0:=by exact_mod_cast z
  omega
 have i1:=Rat.mul_inv_cancel _ d0;rw[n1,Rat.div_def,Rat.mul_assoc,i1,Rat.mul_one]
theorem zvd{K:W.Frag}{c:Cls}{ds Q Ex}(h:Hg c ds Q Ex):zi6 K c (fin Q) (aJ 12 ds) fun _=>Ex:=by
 obtain⟨rows,U,ms,x,hd,b,g,rfl,G,hl,hU,hr,hw,hb,hg,hh,h⟩:=h;have s1:=vp;obtain⟨Ss,F,p⟩:=G.g.pi;have nd:ms.flatten.Nodup:=Gh p.dj fun f hf=>vA (G.g.sr f hf);have fln:ms.flatten.length<=12:=zN (wz nd fun z hz=>by
  obtain⟨f,hf,hz⟩:=List.mem_flatten.mp hz;obtain⟨r,h1,h2⟩:=G.g.hand hf hz;rw[<- h2];exact hr r h1) hU
 have uniq:∀f∈ms,∀f' ∈ms,∀z,z∈f ->z∈f' ->f=f' :=fun f hf f' hf' z hz hz' =>by
  obtain⟨i,hi,rfl⟩:=List.mem_iff_getElem.mp hf;obtain⟨j,hj,rfl⟩:=List.mem_iff_getElem.mp hf';have dj:=List.pairwise_iff_getElem.mp p.dj;rcases Nat.lt_trichotomy i j with q | q | q
  ·exact absurd hz' (dj i j hi hj q z hz)
  ·subst q;rfl
  ·exact absurd hz (dj j i hj hi q z hz')
 let y:=iY rows x hd b g
 intro as;show zgt K c (fin Q) [.pu (aK rows),.pu (cX ms.flatten x),.pu (.str hd),.pu (.int b),.tr as (.dic [] []),.no,.no,.no,.no,.no,.no,.no] fun _=>Ex;refine⟨rows,U,4,rfl,by omega,hr,hw,by omega,fun dJ G' => ?_⟩
 obtain rfl:=G'.uniq G.g fun r=>Iff.rfl;refine⟨fun i Γ=>∃(as:List Addr) (y5 y6 y7 y8 y9 y10 y11:Slot),Γ= [.pu (aK rows),.pu (cX dJ.flatten x),.pu (.str hd),.pu (.int b),.tr as (cZ (dJ.take i).flatten y),y5,y6,y7,y8,y9,y10,y11],⟨as,_,_,_,_,_,_,_,rfl⟩,?_,?_⟩
 ·rintro i d _ hi ⟨as,y5,y6,y7,y8,y9,y10,y11,rfl⟩;have hi' :i<dJ.length:=by
   have:=(zU.mp hi).1
   rwa [List.length_map] at this
  rw[List.getElem?_map,List.getElem?_eq_getElem hi'] at hi;cases hi;have hm:dJ[i]∈dJ :=yX hi';have apart:∀h∈dJ[i],h∉ (dJ.take i).flatten:=fun h hh z=>by
   have:=nd;rw[<- List.take_append_drop i dJ,List.flatten_append,List.nodup_append] at this;refine this.2.2 h z h ?_ rfl;refine List.mem_flatten.mpr ⟨dJ[i],?_,hh⟩;rw[List.drop_eq_getElem_cons hi'];exact zW
  have tk:dJ.take (i+1)=dJ.take i++ [dJ[i]]:=Ht hi';have fl:(dJ.take (i+1)).flatten=(dJ.take i).flatten++dJ[i]:=by rw[tk,List.flatten_append];simp
  have fll:(dJ.take i).flatten.length+ (dJ[i]).length<=12:=by
   rw[<- List.length_append,<- fl];refine zN ?_ fln;have:=congrArg List.length (congrArg List.flatten (List.take_append_drop (i+1) dJ));rw[List.flatten_append,List.length_append] at this;omega
  generalize em:dJ[i]=m at*;have Kv:m.Nodup:=vA (G.g.sr m hm);show aQ _ (rows.map jw) _;refine vq jw (fun r=> .str r.2.1) (fun r=>decide (r.2.1∈m)) (fun r hr P hp=>⟨rfl,rfl,rfl,Hl m,?_⟩) ?_
  ·show if (if false then _ else inD (.str r.2.1) (m.map .str))=true then _ else _;rw[if_neg Bool.false_ne_true,BP];by_cases q:r.2.1∈m
   ·rw[if_pos (decide_eq_true q)] at hp⊢;exact hp
   ·rw[if_neg (by simpa using q)] at hp⊢;exact hp
  show zee K c _ [.pu (aK rows),.pu (cX dJ.flatten x),.pu (.str hd),.pu (.int b),.tr as (cZ (dJ.take i).flatten y),.pu (gl m),.pu (.int (((ofM rows m).map fun r=>D.str r.2.1).length:Int)),y7,y8,y9,y10,y11] _;rw[List.length_map];show aQ _ (rows.map jw) _;refine vq jw (fun r=> .str r.2.1) (fun r=>decide (r.2.1=hd)) (fun r hr P hp=>⟨rfl,rfl,T3 _ _,?_⟩) ?_
  ·rw[zf];by_cases q:r.2.1=hd
   ·rw[decide_eq_true q] at hp⊢;exact hp
   ·rw[decide_eq_false q] at hp⊢;exact hp
  show zd3 K c _ [.pu (aK rows),.pu (cX dJ.flatten x),.pu (.str hd),.pu (.int b),.tr as (cZ (dJ.take i).flatten y),.pu (gl m),.pu (.int ((ofM rows m).length:Int)),.pu (.int (((fM rows hd).map fun r=>D.str r.2.1).length:Int)),y8,y9,y10,y11] _;rw[List.length_map];have l1:(ofM rows m).length<=40:=zN (List.length_filter_le _ _) hl;have l2:(fM rows hd).length<=40:=zN (List.length_filter_le _ _) hl;show jW (m.map .str) (hName 8) (zfr K c) _ _ _;refine⟨fun j Γ=>∃(as:List Addr) (y8 y9 y10 y11:Slot),Γ= [.pu (aK rows),.pu (cX dJ.flatten x),.pu (.str hd),.pu (.int b),.tr as (cZ ((dJ.take i).flatten++m.take j) y),.pu (gl m),.pu (.int ((ofM rows m).length:Int)),.pu (.int ((fM rows hd).length:Int)),y8,y9,y10,y11],⟨as,_,_,_,_,by rw[List.take_zero,List.append_nil]⟩,?_,?_⟩
  ·rintro j d _ hj ⟨as,y8,y9,y10,y11,rfl⟩;have hj' :j<m.length:=by
    have:=(zU.mp hj).1
    rwa [List.length_map] at this
   rw[List.getElem?_map,List.getElem?_eq_getElem hj'] at hj;cases hj;have nn:m[j]∉ (dJ.take i).flatten++m.take j:=fun z=>by
    rcases zR.mp z with z | z
    ·exact apart _ (yX hj') z
    ·have key:=List.pairwise_iff_getElem.mp Kv;obtain⟨q,hq,e⟩:=List.mem_iff_getElem.mp z;rw[List.length_take] at hq;rw[List.getElem_take] at e;exact key q j (by omega) hj' (by omega) e
   have hz:m[j]∈m:=yX hj';have hf:m[j]∈dJ.flatten:=List.mem_flatten.mpr ⟨m,hm,hz⟩;have sz:=G.sz m hm _ hz;have dp:=(x m[j]).den_pos;show sY (cX dJ.flatten x) (.str m[j]) _;refine z0r hf ⟨rfl,rfl,?_⟩;show zea K c _ [.pu (aK rows),.pu (cX dJ.flatten x),.pu (.str hd),.pu (.int b),.tr as (cZ ((dJ.take i).flatten++m.take j) y),.pu (gl m),.pu (.int ((ofM rows m).length:Int)),.pu (.int ((fM rows hd).length:Int)),.pu (.str m[j]),.pu (.int (x m[j]).num),.pu (.int ((x m[j]).den:Int)),y11] _;refine⟨rfl,Hl m,?_⟩;show if (if false then _ else inD (.str hd) (m.map .str))=true then _ else _;rw[if_neg Bool.false_ne_true,BP];have put:∀(q:Rat) (y9 y10 y11:Slot),q=y m[j] ->∃(as1:List Addr) (z8 z9 z10 z11:Slot),[Slot.pu (aK rows),.pu (cX dJ.flatten x),.pu (.str hd),.pu (.int b),.tr as (T.dic (eF (((dJ.take i).flatten++m.take j).map .inr) (.inr m[j])) ((bZ (((dJ.take i).flatten++m.take j).map .inr) (((dJ.take i).flatten++m.take j).map fun h=>qD (y h)) (.inr m[j]) (qD q)).map .leaf)),.pu (gl m),.pu (.int ((ofM rows m).length:Int)),.pu (.int ((fM rows hd).length:Int)),.pu (.str m[j]),y9,y10,y11]= [.pu (aK rows),.pu (cX dJ.flatten x),.pu (.str hd),.pu (.int b),.tr as1 (cZ ((dJ.take i).flatten++m.take (j+1)) y),.pu (gl m),.pu (.int ((ofM rows m).length:Int)),.pu (.int ((fM rows hd).length:Int)),z8,z9,z10,z11]:=fun q y9 y10 y11 e=>by
    rw[e,zpx nn,List.append_assoc,<- Ht hj'];exact⟨_,_,_,_,_,rfl⟩
   have few:(((dJ.take i).flatten++m.take j).map (Sum.inr:Str ->Key)).length<sizeLine:=by
    rw[List.length_map,List.length_append,List.length_take];omega
   by_cases q:hd∈m
   ·rw[if_pos (decide_eq_true q)];obtain rfl:m=g:=uniq m hm g hg hd q hh;have pos:0< (ofM rows m).length:=List.length_pos_iff.mpr fun z=>by
     obtain⟨r,h1,h2⟩:=G.g.hand hm hz;have:=cA.mpr ⟨h1,by rw[h2];exact hz⟩
     rw[z] at this;cases this
    have b1:bD ((ofM rows m).length:Int)<=6:=gU (by omega)
    have b2:bD ((fM rows hd).length:Int)<=6:=gU (by omega)
    have b3:=gU hb;obtain⟨z1,z2⟩:=sz;refine⟨T3 _ _,.inr (.inl ?_),?_⟩
    ·rw[zf];split<;>exact gU (by decide)
    rw[zf];obtain⟨δ,eδ,bδ⟩:∃δ:Int,δ=(if decide (m[j]=hd)=true then 1 else 0)/\bD δ<=1:=⟨_,rfl,by split<;>exact gU (by decide)⟩
    have y1:(x m[j])+ (b:Rat)* ((δ:Rat) - ((fM rows hd).length:Rat)/ ((ofM rows m).length:Rat))=y m[j]:=by
     show _=iY rows x hd b m m[j];unfold iY;rw[if_pos hz,eδ];by_cases e:m[j]=hd
     ·simp [e]
     ·simp [e]
    rw[<- eδ];have k1:=vQ ((ofM rows m).length:Int) δ;have k2:=Wv (((ofM rows m).length:Int)*δ) ((fM rows hd).length:Int);have k3:=vQ (x m[j]).num ((ofM rows m).length:Int);have k4:=vQ ((x m[j]).den:Int) b;have k5:=vQ (((x m[j]).den:Int)*b) (((ofM rows m).length:Int)*δ - ((fM rows hd).length:Int));have k6:=Oe ((x m[j]).num* ((ofM rows m).length:Int)) ((((x m[j]).den:Int)*b)* (((ofM rows m).length:Int)*δ - ((fM rows hd).length:Int)));have k7:=vQ ((x m[j]).den:Int) ((ofM rows m).length:Int);refine⟨.inr (.inr (by omega)),.inr (.inr (by omega)),.inr (.inr (by omega)),.inr (.inr (by omega)),?_⟩
    refine⟨_,_,rfl,by omega,by omega,Int.mul_ne_zero (by omega) (by omega),⟨as,_,rfl⟩,.inr m[j],as,_,((dJ.take i).flatten++m.take j).map fun h=>qD (y h),rfl,rfl,few,?_⟩
    exact put _ _ _ _ (by rw[z24 pos,y1])
   ·rw[if_neg (by simpa using q)]
    obtain⟨z1,z2⟩:=sz;refine⟨_,_,rfl,by omega,by omega,by omega,⟨as,_,rfl⟩,.inr m[j],as,_,((dJ.take i).flatten++m.take j).map fun h=>qD (y h),rfl,rfl,few,?_⟩
    refine put _ _ _ _ ?_;rw[z0d];show _=iY rows x hd b g m[j];unfold iY;rw[if_neg fun z=>q (by rw[uniq m hm g hg _ hz z];exact hh)]
  ·rintro _ ⟨as,y8,y9,y10,y11,rfl⟩;rw[List.length_map,List.take_length,<- fl];exact⟨as,_,_,_,_,_,_,_,rfl⟩
 ·rintro _ ⟨as,y5,y6,y7,y8,y9,y10,y11,rfl⟩;rw[List.length_map,List.take_length];refine⟨as,_,_,rfl,?_⟩;show Q (.dik (dJ.flatten.map .inr) (d8 ((dJ.flatten.map fun h=>qD (y h)).map .leaf)));rw[Kw];exact h
theorem T4{hs:List Str}{x y:Str ->Rat}{neg:Bool}(nd:hs.Nodup)(e:∀h∈hs,x h=y h){P:D ->Prop}(h:P (.bl (!neg))):qH neg (cX hs x) (cX hs y) P:=by
 have hx:(hs.map fun h=>qD (x h))=hs.map fun h=>qD (y h):=List.map_congr_left fun h hh=>by rw[e h hh]
 refine⟨_,_,rfl,by rw[hx];rfl,zf1 nd,fun d hd=> ?_,h⟩
 obtain⟨z,_,rfl⟩:=zE.mp hd;exact z50 _ _
theorem zw6(hs:List Str)(x:Str ->Rat):cZ hs x=T.dic (hs.map .inr) ((hs.map fun h=>qD (x h)).map .leaf):=rfl
theorem z40{i:Nat}{Γ:G2}{d:D}{P:D ->G2 ->Prop}{E:XW}(e:Γ[i]?=some (.pu d))(h:P d Γ):cV i Γ P E:=by unfold cV;rw[e];exact h
theorem LB.perm{rows cH :List Rw}(p:rows.Perm cH)(L:LB rows):LB cH :=
 ⟨by rw[<- p.length_eq];exact L.few,fun r hr=>L.mm r (p.mem_iff.mpr hr),fun w=>by
  have:(bH rows w).Perm (bH cH w):=p.filter _;rw[<- this.length_eq];exact L.wk w⟩
theorem z5t{K:W.Frag}{c:Cls}{ds Q Ex}(h:J9 c ds Q Ex):Hh K c (fin Q) (aJ 5 ds) fun _=>Ex:=by
 obtain⟨ns,rfl,hl,h⟩:=h;have s1:=vp
 let S:D:= .lst (ns.map .int)
 have main:∀(rows:List Rw) (U:List Str),rows.length<=40 ->U.length<=4 ->(∀r∈rows,r.2.1∈U) ->Uq rows ->(∀r∈rows,r.2.2.natAbs<2^40) ->
   zqm K c (fin Q) [.pu S,.pu (aK rows),.no,.no,.no] fun _=>Ex:=by
  intro rows U b1 b2 b3 uq mk;have wk:∀w,(bH rows w).length<=4:=fun w=>by
   have:=wz (Sv uq w) fun y hy=>by
    obtain⟨r,hr,_,e⟩:=eN.mp hy;rw[<- e];exact b3 r hr
   rw[Bt] at this;omega
  have L:LB rows:=⟨by omega,fun r hr=>zL (mk r hr) (Nat.pow_le_pow_right (by decide) (by decide)),fun w=>by have:=wk w;omega⟩
  refine⟨rows,U,rfl,uq,L,by omega,b3,fun ms x G=> ?_⟩
  show zqx K c (fin Q) [.pu S,.pu (aK rows),.pu (.dik (ms.flatten.map .inr) (d8 ((ms.flatten.map fun h=>qD (x h)).map .leaf))),.no,.no] fun _=>Ex;rw[Kw];obtain⟨Ss,F,p⟩:=G.g.pi;have nd:ms.flatten.Nodup:=Gh p.dj fun f hf=>vA (G.g.sr f hf);have rv:rows.reverse.Perm rows:=List.reverse_perm rows;refine⟨rows.reverse,U,by unfold aK;rw[List.map_reverse],zu5 rv uq,L.perm rv.symm,by omega,fun r hr=>b3 r (rv.mem_iff.mp hr),fun dJ x' G' => ?_⟩
  obtain rfl:=G'.g.uniq G.g fun r=>rv.mem_iff;rw[zw6];dsimp only;rw[Kw];refine z40 rfl (T4 nd (zuc G.g (fun m hm h hh=>z16 rv (G'.ev m hm h hh)) (fun m hm=>z1t rv (G'.em m hm)) G.ev G.em) ?_);show zqc K c (fin Q) [.pu S,.pu (aK rows),.pu (cX dJ.flatten x),.no,.no] fun _=>Ex;refine⟨Nat.zero_le _,zyf rows [],?_⟩;by_cases e:rows= []
  ·subst e;rw[show bR (aK []) (D.lst [])=true from Ag _];have z:=G.g.none;subst z;exact T4 (x:=x) (y:=x) (hs:= []) List.nodup_nil (fun _ z=>by(cases z)) h
  ·rw[show bR (aK rows) (D.lst [])=false from Bool.eq_false_iff.mpr fun z=>e (by have z:=Wx _ _ z;injection z with z;exact List.map_eq_nil_iff.mp z)]
   have len:0<rows.length:=List.length_pos_iff.mpr e;show S9 K c (fin Q) [.pu S,.pu (aK rows),.pu (cX dJ.flatten x),.no,.no] fun _=>Ex;unfold S9
   and_intros
   refine⟨ns,50,rfl,hl,by omega,by rw[List.length_map];omega,?_⟩
   obtain⟨t,et,ht⟩:=zc (i:=eY ns 50) (n:=rows.length) len;rw[List.length_map,et];refine⟨_,TX ht,_,uT (j:=1) rfl,?_⟩;have hr:rows[t]∈rows:=yX ht;generalize rows[t]=r at hr;show S8 K c (fin Q) [.pu S,.pu (aK rows),.pu (cX dJ.flatten x),.pu (.str r.2.1),.no] fun _=>Ex;unfold S8
   and_intros
   refine⟨ns,51,rfl,hl,by omega,show uQ 10 12 from ⟨by decide,by decide,by decide⟩,by decide,?_⟩
   have lb:=BL (i:=eY ns 51) (m:=10^12) (by decide)
   obtain⟨b,eb,hb⟩:∃b:Int,b=1+ (eY ns 51).fmod (10^12)/\b.natAbs<2^41:=⟨_,rfl,by omega⟩
   show zpr K c (fin Q) [.pu S,.pu (aK rows),.pu (cX dJ.flatten x),.pu (.str r.2.1),.pu (.int (1+ (eY ns 51).fmod (10^12)))] fun _=>Ex;rw[<- eb];refine⟨rows,r.2.1,b,rfl,b1,?_⟩;have hm:∃g∈dJ,r.2.1∈g:=by
    obtain⟨f,hf,hx⟩:=List.mem_flatten.mp (G.mem hr);exact⟨f,hf,hx⟩
   obtain⟨g,hg,hh⟩:=hm;have L2:LB (rows.map (ju r.2.1 b)):=by
    refine⟨by rw[List.length_map];omega,fun s hs=> ?_,fun w=>by rw[zzk,List.length_map];exact L.wk w⟩
    obtain⟨s',hs',rfl⟩:=zE.mp hs;have:=mk s' hs';show(s'.2.2+b* (if s'.2.1=r.2.1 then 1 else 0)).natAbs<2^100;split<;>omega
   refine⟨rows.map (ju r.2.1 b),U,rfl,uq.mv,L2,by omega,fun s hs=> ?_,fun ms2 x2 G2=> ?_⟩
   ·obtain⟨s',hs',rfl⟩:=zE.mp hs;exact b3 s' hs'
   obtain rfl:=G2.g.uniq (G.g.mv r.2.1 b) fun _=>Iff.rfl;refine⟨rows,U,ms2,x,r.2.1,b,g,rfl,G,b1,by omega,b3,fun w=>by have:=wk w;unfold eO;unfold bH at this;rw[List.length_map];exact this,hb,hg,hh,?_⟩
   dsimp only;rw[Kw];have cl:∀s∈rows,s.2.1∈g ->∀s' ∈rows,s.1=s'.1 ->s'.2.1∈g:=fun s hs hsg s' hs' e=>(G.g.sys uq hg).1 s hs hsg _ (eN.mpr ⟨s',hs',e.symm,rfl⟩);refine T4 nd (zuc G2.g G2.ev G2.em (fun m hm z hz=>z5a hh cl (G.ev m hm z hz)) fun m hm=>z5e hh ⟨r,hr,hh⟩ ?_ (G.em m hm)) h;by_cases q:m=g
   ·exact .inl q
   ·refine .inr fun z hz hz' =>q ?_;obtain⟨i,hi,rfl⟩:=List.mem_iff_getElem.mp hm;obtain⟨j,hj,rfl⟩:=List.mem_iff_getElem.mp hg;have dj:=List.pairwise_iff_getElem.mp p.dj;rcases Nat.lt_trichotomy i j with q | q | q
    ·exact absurd hz' (dj i j hi hj q z hz)
    ·subst q;rfl
    ·exact absurd hz (dj j i hj hi q z hz')
 show Hh K c (fin Q) [.pu S,.no,.no,.no,.no] fun _=>Ex;unfold Hh
 and_intros
 obtain⟨t4,e4,h4⟩:=zc (i:=eY ns 0) (n:=4) (by decide)
 obtain⟨t8,e8,h8⟩:=zc (i:=eY ns 1) (n:=8) (by decide)
 refine⟨ns,0,rfl,hl,by omega,by decide,ns,1,rfl,hl,by omega,by decide,ns,1+t4,1+t8,?_,hl,by omega,by omega,by omega,fun rows U c1 c2 c3 cu ck=> ?_⟩
 ·rw[show(eY ns 0).fmod 4=(t4:Int) from e4,show(eY ns 1).fmod 8=(t8:Int) from e8,Int.natCast_add,Int.natCast_add];rfl
 ·exact main rows U c1 (by omega) c3 cu ck
end L3
local macro_rules | `(#[$x])=> `(by exact $x)
local macro_rules | `(#[$x,_])=> `(fun _ _ _ _ _ _=>by exact $x)
local macro_rules | `(tactic| symm_saturate)=> `(tactic| exact⟨rfl,by decide+kernel,by decide+kernel,by decide+kernel,rfl,by decide+kernel⟩)
local macro_rules | `(tactic| trivial)=> `(tactic| first | exact Or.inl rfl | exact Or.inr (Or.inl rfl) | exact Or.inr (Or.inr rfl) | exact Or.inr rfl)
local macro_rules | `(tactic| nofun)=> `(tactic| exact ⟨rfl,rfl,rfl,by decide+kernel,rfl,by decide+kernel,by decide+kernel⟩)
namespace Lw
open PySem PySem.Spec PyProof.Rows L2 L3
def top(i:Nat):Stmt:=PySem.Challenge.pw_hall_k34_one_hand_higher.main.body.getD i (.Pass ⟨0,0,0,0⟩)
theorem cD{k:Nat}{A:Around}{e:Env}(hr:eU k (A.deeper e)):(A.deeper e).units+21<cLine:=by have:=hr.units;omega
theorem len1{us:List Value}(h:us.length=1):∃a0,us= [a0]:=by
 match us,h with | [a0],_=>exact⟨a0,rfl⟩
theorem len2{us:List Value}(h:us.length=2):∃a0 a1,us= [a0,a1]:=by
 match us,h with | [a0,a1],_=>exact⟨a0,a1,rfl⟩
theorem qM{us:List Value}(h:us.length=3):∃a0 a1 a2,us= [a0,a1,a2]:=by
 match us,h with | [a0,a1,a2],_=>exact⟨a0,a1,a2,rfl⟩
theorem Hy{us:List Value}(h:us.length=4):∃a0 a1 a2 a3,us= [a0,a1,a2,a3]:=by
 match us,h with | [a0,a1,a2,a3],_=>exact⟨a0,a1,a2,a3,rfl⟩
theorem T5{us:List Value}(h:us.length=5):∃a0 a1 a2 a3 a4,us= [a0,a1,a2,a3,a4]:=by
 match us,h with | [a0,a1,a2,a3,a4],_=>exact⟨a0,a1,a2,a3,a4,rfl⟩
section
variable(P:Program)(w:World)(K:W.Frag)(mg:Str ->Option Value)(base:Heap)(c:Cls)
abbrev Ky:Prop:=cP P w K mg base "_law_cell" 1 ["_law_script","_law_k"] (p7 c)
abbrev T6:Prop:=cP P w K mg base "_law_rows" 2 ["_law_script","_law_hands","_law_works"] (G7 c)
abbrev zjp:Prop:=mU P w K mg base "by_work" 1 ["rows"] (Bx c)
abbrev zjh:Prop:=cP P w K mg base "divisor" 1 ["one","other"] (Bu c)
abbrev Kz:Prop:=cP P w K mg base "fraction" 2 ["top","bottom"] (wD c)
abbrev T7:Prop:=cP P w K mg base "sheets_with" 1 ["hand","sheets"] (wF c)
abbrev zs0:Prop:=cP P w K mg base "plus" 3 ["one","other"] (Bv c)
abbrev zpq:Prop:=cP P w K mg base "total" 4 ["some"] (Bw c)
abbrev T8:Prop:=mU P w K mg base "leanings" 8 ["rows"] (za c)
abbrev T9:Prop:=cP P w K mg base "_law_due" 3 ["_law_rows_here","_law_before","_law_hand","_law_by"] (Hg c)
abbrev Ua:Prop:=cP P w K mg base "_law_moved" 1 ["_law_rows_here","_law_hand","_law_by"] (Hf c)
end
section
variable{P:Program}{w:World}{K:W.Frag}{mg:Str ->Option Value}{base:Heap}{f:Addr}{fd:FuncData}{cdv:Value}{A:Around}{outer:List Env}{s:Shared}{H:Hp}{E:XK}{F0:Hp}(c:Cls)
abbrev Ub:Stmt:=top 35
theorem jc:aB ["_law_cell_here","_law_many","_law_letters","_law_size","_law_at","_law_names_here","_law_k","_law_name","_law_j","_law_number"] ["_law_cell_here","_law_many"] (bM Ub):=by nofun
theorem zlq(F:fK K "_law_names" "_law_names" Ub f fd)(hm:mg "_law_names" =some (.ref f))(bQ:mg "range" =none)(iu:mg "int" =none):cP P w K mg base "_law_names" 1 ["_law_cell_here","_law_many"] (BK c):=
 ⟨f,fd,iT F jc (fun _ _ _ h=>zof h) fun cdv A outer s H E hr F0=>⟨Kc K c,by
  have nd:=jc.nd;have hu:=cD hr;exact(bC #[dO (i:=2) nd rfl (by trivial) #[Iw]]
   #[bC #[dO (i:=3) nd rfl (by trivial) #[bA (fun _=>zdt) bh (bA (fun _=>jE) (bA (fun _=>rA) (qv 0) bh) bh)]]
   #[bC #[nH #[jM (fun _=>fY hu) (bA (fun _=>jE) (qv 0) bh) bh (aL _)]
   #[bU #[dO (i:=3) nd rfl (by trivial) #[bh]]]
   #[nG]]
   #[bC #[dO (i:=4) nd rfl (by trivial) #[bA (fun _=>jE) (bA (fun _=>rA) (qv 0) bh) (qv 3)]]
   #[bC #[DY (i:=5) nd rfl (by trivial) #[oX aM]]
   #[bC #[Ec rfl rfl bQ #[aA (qv 1) aM] #[cO (i:=6) nd rfl (by trivial)]
   #[bC #[dO (i:=7) nd rfl (by trivial) #[Iw]]
   #[bC #[Ec rfl rfl bQ #[aA (bA (fun _=>zdt) (qv 3) (bA (fun _=>ji) (qv 6) (Jl (fun _=>Js) rfl iu boot_int (aA (qp (fun _=>fY hu) (bA (fun _=>jE) (qv 0) bh) bh (aL _)) aM)))) aM] #[cO (i:=8) nd rfl (by trivial)]
   #[bC #[dO (i:=9) nd rfl (by trivial) #[bA (fun _=>jE) (bA (fun _=>zdt) (bA (fun _=>zdt) (bA (fun _=>ji) (bA (fun _=>rA) (qv 0) bh) bh) (bA (fun _=>ji) (bA (fun _=>ji) (qv 8) (qv 8)) bh)) (bA (fun _=>ji) (qv 8) bh)) bh]]
   #[bU #[dO (i:=7) nd rfl (by trivial) #[bA (fun _=>zdt) (qv 7) (gb (qv 2) (bA (fun _=>jE) (bA (fun _=>zdt) (qv 9) (bA (fun _=>ji) (qv 6) (Jl (fun _=>Js) rfl iu boot_int (aA (Wm (qp (fun _=>fY hu) (qv 8) (qv 4) (aL _)) (Ny (qp (fun _=>u5 hu) (bA (fun _=>jE) (qv 0) bh) bh (aL _)))) aM)))) bh) (fun _ _=>rfl))]]]]]
   #[bU #[Jq (i:=5) (fun _=>PN) PySem.F.slot_list_append PySem.F.type_list_append rfl (by trivial) #[aA (qv 7) aM]]]]]]
   #[bU #[gq #[qv 5]]]]]]]]),fun ds Q Ex h=>zo8 h⟩,hm,F.kp,F.binds fun _ _ _ _ _ _ us hl=>by obtain⟨_,_,rfl⟩:=len2 hl;exact rfl⟩
abbrev Uc:Stmt:=top 32
theorem jF:aB ["_law_script","_law_k","_law_number"] ["_law_script","_law_k"] (bM Uc):=by nofun
theorem zoq(F:fK K "_law_cell" "_law_cell" Uc f fd)(hm:mg "_law_cell" =some (.ref f))(aV:mg "len" =none):cP P w K mg base "_law_cell" 1 ["_law_script","_law_k"] (p7 c):=
 ⟨f,fd,iT F jF (fun _ _ _ h=>zrr h) fun cdv A outer s H E hr F0=>⟨zhv K c,by
  have nd:=jF.nd;have hu:=cD hr;exact(bC #[nH #[jM (fun _=>xX) (qv 1) (nM (fun _=>rW) rfl aV boot_len (aA (qv 0) aM)) (aL _)]
   #[bU #[gq #[gb (qv 0) (qv 1) (fun _ _=>rfl)]]]
   #[nG]]
   #[bC #[dO (i:=2) nd rfl (by trivial) #[bA (fun _=>zdt) (bA (fun _=>ji) (qv 1) bh) bh]]
   #[bC #[nH #[jM (fun _=>uZ) (nM (fun _=>rW) rfl aV boot_len (aA (qv 0) aM)) bh (aL _)]
   #[bU #[dO (i:=2) nd rfl (by trivial) #[bA (fun _=>jE) (bA (fun _=>zdt) (bA (fun _=>ji) (gb (qv 0) (bA (fun _=>jE) (bA (fun _=>ji) (qv 1) bh) (nM (fun _=>rW) rfl aV boot_len (aA (qv 0) aM))) (fun _ _=>rfl)) bh) (bA (fun _=>ji) (qv 1) bh)) bh]]]
   #[nG]]
   #[bU #[gq #[bA (fun _=>jE) (bA (fun _=>ji) (qv 2) (qv 2)) bh]]]]]),fun ds Q Ex h=>zrh h⟩,hm,F.kp,F.binds fun _ _ _ _ _ _ us hl=>by obtain⟨_,_,rfl⟩:=len2 hl;exact rfl⟩
abbrev Ud:Stmt:=top 36
theorem iw:aB ["_law_way","_law_w","_law_h","_law_hands","_law_cell_here"] ["_law_way","_law_w","_law_h","_law_hands","_law_cell_here"] (bM Ud):=by nofun
theorem zks(F:fK K "_law_marked" "_law_marked" Ud f fd)(hm:mg "_law_marked" =some (.ref f)):cP P w K mg base "_law_marked" 1 ["_law_way","_law_w","_law_h","_law_hands","_law_cell_here"] (G6 c):=
 ⟨f,fd,iT F iw (fun _ _ _ h=>zl9 h) fun cdv A outer s H E hr F0=>⟨Kd K c,by
  have nd:=iw.nd;have hu:=cD hr;exact(bC #[nH #[jM (fun _=>fY hu) (qv 0) bh (aL _)]
   #[bU #[gq #[qp (fun _=>uZ) (bA (fun _=>jE) (qv 4) bh) bh (aL _)]]]
   #[nG]]
   #[bC #[nH #[jM (fun _=>fY hu) (qv 0) bh (aL _)]
   #[bU #[gq #[z44 (qp (fun _=>fY hu) (qv 2) (bA (fun _=>jE) (qv 1) (qv 3)) (aL _)) (Ny (qp (fun _=>fY hu) (qv 2) (bA (fun _=>jE) (bA (fun _=>zdt) (qv 1) bh) (qv 3)) (aL _)))]]]
   #[nG]]
   #[bC #[nH #[jM (fun _=>fY hu) (qv 0) bh (aL _)]
   #[bU #[gq #[Wm (qp (fun _=>fY hu) (bA (fun _=>jE) (qv 1) bh) (bA (fun _=>jE) (qv 2) bh) (aL _)) (Ny (qp (fun _=>uZ) (bA (fun _=>jE) (qv 4) bh) bh (aL _)))]]]
   #[nG]]
   #[bU #[gq #[Wk]]]]]),fun ds Q Ex h=>zll h⟩,hm,F.kp,F.binds fun _ _ _ _ _ _ us hl=>by obtain⟨_,_,_,_,_,rfl⟩:=T5 hl;exact rfl⟩
abbrev Ue:Stmt:=top 37
theorem jG:aB ["_law_script","_law_hands","_law_works","_law_way","_law_most","_law_names_here","_law_people","_law_rows_here","_law_w","_law_h","_law_cell_here","_law_turn"] ["_law_script","_law_hands","_law_works"] (bM Ue):=by nofun
theorem zoa(F:fK K "_law_rows" "_law_rows" Ue f fd)(hm:mg "_law_rows" =some (.ref f))(eZ:cP P w K mg base "_law_names" 1 ["_law_cell_here","_law_many"] (BK c))(aG:Ky P w K mg base c)(fQ:cP P w K mg base "_law_marked" 1 ["_law_way","_law_w","_law_h","_law_hands","_law_cell_here"] (G6 c))(bQ:mg "range" =none)(aV:mg "len" =none):cP P w K mg base "_law_rows" 2 ["_law_script","_law_hands","_law_works"] (G7 c):=
 ⟨f,fd,iT F jG (fun _ _ _ h=>zrw h) fun cdv A outer s H E hr F0=>⟨Ke K c,by
  have nd:=jG.nd;have hu:=cD hr;exact(bC #[dO (i:=3) nd rfl (by trivial) #[bA (fun _=>jE) (dR aG (hr.mono (by decide)) rfl (aA (qv 0) (aA bh aM))) bh]]
   #[bC #[dO (i:=4) nd rfl (by trivial) #[gb (eE #[oX (aA bh (aA bh (aA bh (aA (bA (fun _=>Ww) bh bh) aM))))]) (bA (fun _=>jE) (dR aG (hr.mono (by decide)) rfl (aA (qv 0) (aA bh aM))) bh) (fun _ _=>rfl)]]
   #[bC #[dO (i:=5) nd rfl (by trivial) #[dR eZ (hr.mono (by decide)) rfl (aA (dR aG (hr.mono (by decide)) rfl (aA (qv 0) (aA bh aM))) (aA (qv 2) aM))]]
   #[bC #[dO (i:=6) nd rfl (by trivial) #[dR eZ (hr.mono (by decide)) rfl (aA (dR aG (hr.mono (by decide)) rfl (aA (qv 0) (aA bh aM))) (aA (qv 1) aM))]]
   #[bC #[DY (i:=7) nd rfl (by trivial) #[oX aM]]
   #[bC #[Ec rfl rfl bQ #[aA (qv 2) aM] #[cO (i:=8) nd rfl (by trivial)]
   #[bU #[Ec rfl rfl bQ #[aA (qv 1) aM] #[cO (i:=9) nd rfl (by trivial)]
   #[bC #[dO (i:=10) nd rfl (by trivial) #[dR aG (hr.mono (by decide)) rfl (aA (qv 0) (aA (bA (fun _=>zdt) (bA (fun _=>zdt) bh (bA (fun _=>ji) (qv 8) (qv 1))) (qv 9)) aM))]]
   #[bU #[nH #[Nv (dR fQ (hr.mono (by decide)) rfl (aA (qv 3) (aA (qv 8) (aA (qv 9) (aA (qv 1) (aA (qv 10) aM))))))]
   #[bU #[Jq (i:=7) (fun _=>PN) PySem.F.slot_list_append PySem.F.type_list_append rfl (by trivial) #[aA (ur (aA (gb (qv 5) (qv 8) (fun _ _=>rfl)) (aA (gb (qv 6) (qv 9) (fun _ _=>rfl)) (aA (bA (fun _=>jE) (bA (fun _=>rA) (qv 10) bh) (qv 4)) aM)))) aM]]]
   #[nG]]]]]]]
   #[bC #[dO (i:=11) nd rfl (by trivial) #[bA (fun _=>jE) (bA (fun _=>rA) (dR aG (hr.mono (by decide)) rfl (aA (qv 0) (aA bh aM))) bh) (bA (fun _=>zdt) (zz2 (fun F0 H0=>by exact(nM (fun _=>rW) rfl aV boot_len (aA (qv 7) aM)))) bh)]]
   #[bU #[gq #[eE #[vW (eE #[Jp (qv 7) (Jo (qv 11)) Jm]) (eE #[Jp (qv 7) Jm (Jo (qv 11))])]]]]]]]]]]),fun ds Q Ex h=>zrx h⟩,hm,F.kp,F.binds fun _ _ _ _ _ _ us hl=>by obtain⟨_,_,_,rfl⟩:=qM hl;exact rfl⟩
abbrev KC:Stmt:=top 15
theorem qd:aB ["group","hands"] ["group","hands"] (bM KC):=by nofun
theorem zz7(F:fK K "meet" "meet" KC f fd)(hm:mg "meet" =some (.ref f))(tO:mg "any" =none):cP P w K mg base "meet" 1 ["group","hands"] (BJ c):=
 ⟨f,fd,iT F qd (fun _ _ _ h=>z2i h) fun cdv A outer s H E hr F0=>⟨zv0 K c,by
  have nd:=qd.nd;have hu:=cD hr;exact(bU (by exact(gq (by exact(nM (fun _=>z5z rfl) rfl tO boot_any (aA (eE (by exact(nO (own:= ["hand"]) (N' := ["hand","group"]) (by show cQ ["group","hands"] _ ["hand"] [0] (bM KC) ["hand","group"];symm_saturate) rfl #[lJ (nq (qv 1))] #[cO (i:=0) (show(["hand","group"]:List Str).Nodup by decide+kernel) rfl (by trivial),_] #[qt,_] #[qp (fun _=>qw) (qv 0) (qv 1) (by with_unfolding_all rfl),_]))) aM)))))),fun ds Q Ex h=>z3j h⟩,hm,F.kp,F.binds fun _ _ _ _ _ _ us hl=>by obtain⟨_,_,rfl⟩:=len2 hl;exact rfl⟩
abbrev KD:Stmt:=top 14
theorem mq:aB ["found","hands","apart","together","group"] ["found","hands"] (bM KD):=by nofun
theorem zux(F:fK K "joined" "joined" KD f fd)(hm:mg "joined" =some (.ref f))(mX:cP P w K mg base "meet" 1 ["group","hands"] (BJ c))(dN:mg "list" =none)(cg:mg "sorted" =none)(mz:mg "set" =none):cP P w K mg base "joined" 2 ["found","hands"] (GK c):=
 ⟨f,fd,iT F mq (fun _ _ _ h=>zx7 h) fun cdv A outer s H E hr F0=>⟨zli K c,by
  have nd:=mq.nd;have hu:=cD hr;exact(bC (by exact(Es (by exact(Eo (i:=2) nd rfl rfl (own:= ["group"]) (N' := ["group","hands"]) (by show cQ ["found","hands","apart","together","group"] _ ["group"] [1] (bM KD) ["group","hands"];symm_saturate) rfl #[lJ (nq (qv 0))] #[cO (i:=0) (show(["group","hands"]:List Str).Nodup by decide+kernel) rfl (by trivial),_] #[u9 (z2k (Nv (dR mX (hr.mono (by decide)) rfl (aA (qv 0) (aA (qv 1) aM))))),_] #[qv 0,_]))))
   #[bC #[DY (i:=3) nd rfl (by trivial) #[Px (fun _=>Xg) rfl dN boot_list (aA (qv 1) aM)]]
   #[bC #[uw rfl #[qv 0] #[cO (i:=4) nd rfl (by trivial)]
   #[bU #[nH #[Nv (dR mX (hr.mono (by decide)) rfl (aA (qv 4) (aA (qv 1) aM)))]
   #[bU #[Jq (i:=3) (fun _=>zu7) PySem.F.slot_list_extend PySem.F.type_list_extend rfl (by trivial) #[aA (qv 4) aM]]]
   #[nG]]]]
   #[bU #[gq #[eE #[vW (qv 2) (eE #[oX (aA (eE #[Y0 rfl rfl cg rfl mz (aA (qv 3) aM)]) aM)])]]]]]]),fun ds Q Ex h=>zya h⟩,hm,F.kp,F.binds fun _ _ _ _ _ _ us hl=>by obtain⟨_,_,rfl⟩:=len2 hl;exact rfl⟩
abbrev Ug:Stmt:=top 11
theorem kE:aB ["rows","sheets","work","hand","mark"] ["rows"] (bM Ug):=by nofun
theorem zrb(F:fK K "by_work" "by_work" Ug f fd)(hm:mg "by_work" =some (.ref f)):mU P w K mg base "by_work" 1 ["rows"] (Bx c):=
 ⟨f,fd,yH F kE (fun _ _ _ h=>zs9 h) fun cdv A outer s H E hr F0=>⟨zjs K c,by
  have nd:=kE.nd;have hu:=cD hr;exact(bC #[QV (i:=1) nd rfl (by trivial) #[Fl]]
   #[bC #[uw rfl #[qv 0] #[qZ rfl (iI (cO (i:=2) nd rfl (by trivial)) (iI (cO (i:=3) nd rfl (by trivial)) (iI (cO (i:=4) nd rfl (by trivial)) qY)))]
   #[bC #[nH #[z4g (i:=1) (hu1 hu) #[qv 2] rfl (by trivial)]
   #[bU #[z2v (i:=1) (j:=2) (hu1 hu) rfl (by trivial) rfl (by trivial) #[Fl]]]
   #[nG]]
   #[bU #[z2s (i:=1) (j:=2) (l:=3) (hu1 hu) rfl (by trivial) rfl (by trivial) rfl (by trivial) #[qv 4]]]]]
   #[bU #[QX #[Yt (i:=1) rfl (by trivial)]]]]),fun ds Q Ex h=>zu0 h⟩,hm,F.kp,F.binds fun _ _ _ _ _ _ us hl=>by obtain⟨_,rfl⟩:=len1 hl;exact rfl⟩
abbrev Uh:Stmt:=top 13
theorem mC:aB ["rows","found","sheet"] ["rows"] (bM Uh):=by nofun
theorem zry(F:fK K "groups" "groups" Uh f fd)(hm:mg "groups" =some (.ref f))(kJ:cP P w K mg base "joined" 2 ["found","hands"] (GK c))(dY:zjp P w K mg base c)(cg:mg "sorted" =none)(dN:mg "list" =none):mU P w K mg base "groups" 3 ["rows"] (GP c):=
 ⟨f,fd,yH F mC (fun _ _ _ h=>zxv h) fun cdv A outer s H E hr F0=>⟨zlv K c,by
  have nd:=mC.nd;have hu:=cD hr;exact(bC #[dO (i:=1) nd rfl (by trivial) #[eE #[oX aM]]]
   #[bC #[Xb rfl #[ztv #[JH dY (hr.mono (by decide)) rfl (aA (qv 0) aM)]] #[cO (i:=2) nd rfl (by trivial)]
   #[bU #[dO (i:=1) nd rfl (by trivial) #[dR kJ (hr.mono (by decide)) rfl (aA (qv 1) (aA (eE #[Px (fun _=>z1u rfl) rfl dN boot_list (aA (qv 2) aM)]) aM))]]]]
   #[bU #[QX #[z41 #[Xf (fun _=>Y5 hu) rfl cg boot_sorted (aA (qv 1) aM)]]]]]),fun ds Q Ex h=>zv5 h⟩,hm,F.kp,F.binds fun _ _ _ _ _ _ us hl=>by obtain⟨_,rfl⟩:=len1 hl;exact rfl⟩
abbrev Ui:Stmt:=top 5
theorem kO:aB ["one","other","rest"] ["one","other"] (bM Ui):=by nofun
theorem zru(F:fK K "divisor" "divisor" Ui f fd)(hm:mg "divisor" =some (.ref f))(kY:mg "abs" =none):cP P w K mg base "divisor" 1 ["one","other"] (Bu c):=
 ⟨f,fd,iT F kO (fun _ _ _ h=>zsf h) fun cdv A outer s H E hr F0=>⟨zjt K c,by
  have nd:=kO.nd;have hu:=cD hr;exact(bC #[Wq #[jM (fun _=>u5 hu) (qv 1) bh (aL _)]
   #[bC #[dO (i:=2) nd rfl (by trivial) #[bA (fun _=>jE) (qv 0) (qv 1)]]
   #[bC #[dO (i:=0) nd rfl (by trivial) #[qv 1]]
   #[bU #[dO (i:=1) nd rfl (by trivial) #[qv 2]]]]]]
   #[bU #[gq #[nM (fun _=>Ou) rfl kY boot_abs (aA (qv 0) aM)]]]),fun ds Q Ex h=>zup h⟩,hm,F.kp,F.binds fun _ _ _ _ _ _ us hl=>by obtain⟨_,_,rfl⟩:=len2 hl;exact rfl⟩
abbrev KH:Stmt:=top 18
theorem jd:aB ["row","multiple","part"] ["row"] (bM KH):=by nofun
theorem zlw(F:fK K "whole_row" "whole_row" KH f fd)(hm:mg "whole_row" =some (.ref f))(dZ:zjh P w K mg base c):cP P w K mg base "whole_row" 2 ["row"] (Gy c):=
 ⟨f,fd,iT F jd (fun _ _ _ h=>zoi h) fun cdv A outer s H E hr F0=>⟨zgw K c,by
  have nd:=jd.nd;have hu:=cD hr;exact(bC #[dO (i:=1) nd rfl (by trivial) #[bh]]
   (by exact(bC #[uw rfl #[qv 0] #[cO (i:=2) nd rfl (by trivial)]
   #[bU #[dO (i:=1) nd rfl (by trivial) #[bA (fun _=>ji) (qv 1) (bA (fun _=>rA) (gb (qv 2) bh (fun _ _=>rfl)) (dR dZ (hr.mono (by decide)) rfl (aA (qv 1) (aA (gb (qv 2) bh (fun _ _=>rfl)) aM))))]]]]
   (by exact(bU (by exact(gq (by exact(eE (by exact(nO (own:= ["part"]) (N' := ["part","multiple"]) (by show cQ ["row","multiple","part"] _ ["part"] [1] (bM KH) ["part","multiple"];symm_saturate) rfl #[lJ (nq (qv 0))] #[cO (i:=0) (show(["part","multiple"]:List Str).Nodup by decide+kernel) rfl (by trivial),_] #[qt,_] #[bA (fun _=>ji) (gb (qv 0) bh (fun _ _=>rfl)) (bA (fun _=>rA) (qv 1) (gb (qv 0) bh (fun _ _=>rfl))),_]))))))))))),fun ds Q Ex h=>zom h⟩,hm,F.kp,F.binds fun _ _ _ _ _ _ us hl=>by obtain⟨_,rfl⟩:=len1 hl;exact rfl⟩
abbrev KJ:Stmt:=top 22
theorem kZ:aB ["row","lead","place","ahead"] ["row","lead","place","ahead"] (bM KJ):=by nofun
theorem zrn(F:fK K "without" "without" KJ f fd)(hm:mg "without" =some (.ref f))(je:mg "zip" =none):cP P w K mg base "without" 1 ["row","lead","place","ahead"] (Gz c):=
 ⟨f,fd,iT F kZ (fun _ _ _ h=>zul h) fun cdv A outer s H E hr F0=>⟨zjj K c,by
  have nd:=kZ.nd;have hu:=cD hr;exact(bU (by exact(gq (by exact(eE (by exact(nO (own:= ["part","head"]) (N' := ["part","head","row","lead","place","ahead"]) (by show cQ ["row","lead","place","ahead"] _ ["part","head"] [0,1,2,3] (bM KJ) ["part","head","row","lead","place","ahead"];symm_saturate) rfl #[lJ (Qp rfl rfl je (aA (qv 0) (aA (qv 1) aM)))] #[qZ rfl (iI (cO (i:=0) (show(["part","head","row","lead","place","ahead"]:List Str).Nodup by decide+kernel) rfl (by trivial)) (iI (cO (i:=1) (show(["part","head","row","lead","place","ahead"]:List Str).Nodup by decide+kernel) rfl (by trivial)) qY)),_] #[qt,_] #[bA (fun _=>rA) (bA (fun _=>Jc) (bA (fun _=>ji) (gb (qv 3) (qv 4) (fun _ _=>rfl)) (qv 0)) (bA (fun _=>ji) (gb (qv 2) (qv 4) (fun _ _=>rfl)) (qv 1))) (qv 5),_]))))))),fun ds Q Ex h=>zuj h⟩,hm,F.kp,F.binds fun _ _ _ _ _ _ us hl=>by obtain⟨_,_,_,_,rfl⟩:=Hy hl;exact rfl⟩
abbrev KN:Stmt:=top 21
theorem lu:aB ["table","place","ahead","lead"] ["table","place","ahead"] (bM KN):=by nofun
theorem zq6(F:fK K "cleared" "cleared" KN f fd)(hm:mg "cleared" =some (.ref f))(jx:cP P w K mg base "without" 1 ["row","lead","place","ahead"] (Gz c))(cI:mg "enumerate" =none):cP P w K mg base "cleared" 2 ["table","place","ahead"] (GC c):=
 ⟨f,fd,iT F lu (fun _ _ _ h=>zt8 h) fun cdv A outer s H E hr F0=>⟨zjl K c,by
  have nd:=lu.nd;have hu:=cD hr;exact(bC #[dO (i:=3) nd rfl (by trivial) #[gb (qv 0) (qv 1) (fun _ _=>rfl)]]
   (by exact(bU (by exact(gq (by exact(eE (by exact(nO (own:= ["spot","row"]) (N' := ["spot","row","place","ahead","lead"]) (by show cQ ["table","place","ahead","lead"] _ ["spot","row"] [1,2,3] (bM KN) ["spot","row","place","ahead","lead"];symm_saturate) rfl #[lJ (Xo rfl rfl cI (aA (qv 0) aM))] #[qZ rfl (iI (cO (i:=0) (show(["spot","row","place","ahead","lead"]:List Str).Nodup by decide+kernel) rfl (by trivial)) (iI (cO (i:=1) (show(["spot","row","place","ahead","lead"]:List Str).Nodup by decide+kernel) rfl (by trivial)) qY)),_] #[qt,_] #[Wn (jM (fun _=>fY hu) (qv 0) (qv 2) (aL _)) (qv 1) (dR jx (hr.mono (by decide)) rfl (aA (qv 1) (aA (qv 4) (aA (qv 2) (aA (qv 3) aM))))),_]))))))))),fun ds Q Ex h=>zuh h⟩,hm,F.kp,F.binds fun _ _ _ _ _ _ us hl=>by obtain⟨_,_,_,rfl⟩:=qM hl;exact rfl⟩
abbrev Uj:Stmt:=top 6
theorem jH:aB ["top","bottom","common"] ["top","bottom"] (bM Uj):=by nofun
theorem znp(F:fK K "fraction" "fraction" Uj f fd)(hm:mg "fraction" =some (.ref f))(dZ:zjh P w K mg base c)(dW:mg "NoFraction" =some (.ref c.bI)/\nF K c.bI):cP P w K mg base "fraction" 2 ["top","bottom"] (wD c):=
 ⟨f,fd,iT F jH (fun _ _ _ h=>zrs h) fun cdv A outer s H E hr F0=>⟨zh3 K c,by
  have nd:=jH.nd;have hu:=cD hr;exact(bC #[nH #[jM (fun _=>fY hu) (qv 1) bh (aL _)]
   #[bU #[WT rfl rfl dW.1 dW.2 (aA Iw aM)]]
   #[nG]]
   #[bC #[dO (i:=2) nd rfl (by trivial) #[dR dZ (hr.mono (by decide)) rfl (aA (qv 0) (aA (qv 1) aM))]]
   #[bC #[nH #[jM (fun _=>xX) (qv 1) bh (aL _)]
   #[bU #[dO (i:=2) nd rfl (by trivial) #[Ot (qv 2)]]]
   #[nG]]
   #[bU #[gq #[ur (aA (bA (fun _=>rA) (qv 0) (qv 2)) (aA (bA (fun _=>rA) (qv 1) (qv 2)) aM))]]]]]),fun ds Q Ex h=>zrl h⟩,hm,F.kp,F.binds fun _ _ _ _ _ _ us hl=>by obtain⟨_,_,rfl⟩:=len2 hl;exact rfl⟩
abbrev Uk:Stmt:=top 20
theorem jf:aB ["table","place","spot","other"] ["table","place","spot"] (bM Uk):=by nofun
theorem zmr(F:fK K "exchanged" "exchanged" Uk f fd)(hm:mg "exchanged" =some (.ref f))(dN:mg "list" =none):cP P w K mg base "exchanged" 1 ["table","place","spot"] (GD c):=
 ⟨f,fd,iT F jf (fun _ _ _ h=>zo3 h) fun cdv A outer s H E hr F0=>⟨zgz K c,by
  have nd:=jf.nd;have hu:=cD hr;exact(bC #[DY (i:=3) nd rfl (by trivial) #[Px (fun _=>Xg) rfl dN boot_list (aA (qv 0) aM)]]
   #[bC #[XF (i:=3) rfl (by trivial) #[qv 1] #[gb (qv 0) (qv 2) (fun _ _=>rfl)]]
   #[bC #[XF (i:=3) rfl (by trivial) #[qv 2] #[gb (qv 0) (qv 1) (fun _ _=>rfl)]]
   #[bU #[gq #[qv 3]]]]]),fun ds Q Ex h=>zoo h⟩,hm,F.kp,F.binds fun _ _ _ _ _ _ us hl=>by obtain⟨_,_,_,rfl⟩:=qM hl;exact rfl⟩
abbrev Ul:Stmt:=top 19
theorem tQ:aB ["table","place","spot"] ["table","place"] (bM Ul):=by nofun
theorem z3h(F:fK K "led" "led" Ul f fd)(hm:mg "led" =some (.ref f))(gC:cP P w K mg base "exchanged" 1 ["table","place","spot"] (GD c))(bQ:mg "range" =none)(aV:mg "len" =none)(fU:mg "NoAnswer" =some (.ref c.dG)/\nF K c.dG):cP P w K mg base "led" 2 ["table","place"] (GF c):=
 ⟨f,fd,iT F tQ (fun _ _ _ h=>z5b h) fun cdv A outer s H E hr F0=>⟨zzi K c,by
  have nd:=tQ.nd;have hu:=cD hr;exact(bC #[z1j rfl rfl bQ #[aA (qv 1) (aA (nM (fun _=>rW) rfl aV boot_len (aA (qv 0) aM)) aM)] #[cO (i:=2) nd rfl (by trivial)]
   #[bU #[nH #[jM (fun _=>u5 hu) (gb (gb (qv 0) (qv 2) (fun _ _=>rfl)) (qv 1) (fun _ _=>rfl)) bh (aL _)]
   #[bU #[gq #[dR gC (hr.mono (by decide)) rfl (aA (qv 0) (aA (qv 1) (aA (qv 2) aM)))]]]
   #[nG]]]]
   #[bU #[WT rfl rfl fU.1 fU.2 (aA Iw aM)]]),fun ds Q Ex h=>z46 h⟩,hm,F.kp,F.binds fun _ _ _ _ _ _ us hl=>by obtain⟨_,_,rfl⟩:=len2 hl;exact rfl⟩
abbrev HB:Stmt:=top 17
theorem mD:aB ["rows","rights","table","ahead","place"] ["rows","rights"] (bM HB):=by nofun
theorem zut(F:fK K "solved" "solved" HB f fd)(hm:mg "solved" =some (.ref f))(gD:cP P w K mg base "whole_row" 2 ["row"] (Gy c))(jy:cP P w K mg base "cleared" 2 ["table","place","ahead"] (GC c))(aY:Kz P w K mg base c)(tR:cP P w K mg base "led" 2 ["table","place"] (GF c))(bQ:mg "range" =none)(aV:mg "len" =none)(je:mg "zip" =none)(cI:mg "enumerate" =none):cP P w K mg base "solved" 3 ["rows","rights"] (GJ c):=
 ⟨f,fd,iT F mD (fun _ _ _ h=>zv6 h) fun cdv A outer s H E hr F0=>⟨zmn K c,by
  have nd:=mD.nd;have hu:=cD hr;exact(bC (by exact(Es (by exact(Eo (i:=2) nd rfl rfl (own:= ["row","right"]) (N' := ["row","right"]) (by show cQ ["rows","rights","table","ahead","place"] _ ["row","right"] [] (bM HB) ["row","right"];symm_saturate) rfl #[lJ (Qp rfl rfl je (aA (qv 0) (aA (qv 1) aM)))] #[qZ rfl (iI (cO (i:=0) (show(["row","right"]:List Str).Nodup by decide+kernel) rfl (by trivial)) (iI (cO (i:=1) (show(["row","right"]:List Str).Nodup by decide+kernel) rfl (by trivial)) qY)),_] #[qt,_] #[dR gD (hr.mono (by decide)) rfl (aA (eE #[vW (qv 0) (eE #[oX (aA (qv 1) aM)])]) aM),_]))))
   (by exact(bC #[dO (i:=3) nd rfl (by trivial) #[bh]]
   (by exact(bC #[Ec rfl rfl bQ #[aA (nM (fun _=>rW) rfl aV boot_len (aA (qv 2) aM)) aM] #[cO (i:=4) nd rfl (by trivial)]
   #[bC #[dO (i:=2) nd rfl (by trivial) #[dR jy (hr.mono (by decide)) rfl (aA (dR tR (hr.mono (by decide)) rfl (aA (qv 2) (aA (qv 4) aM))) (aA (qv 4) (aA (qv 3) aM)))]]
   #[bU #[dO (i:=3) nd rfl (by trivial) #[gb (gb (qv 2) (qv 4) (fun _ _=>rfl)) (qv 4) (fun _ _=>rfl)]]]]]
   (by exact(bU (by exact(gq (by exact(eE (by exact(nO (own:= ["place","row"]) (N' := ["place","row"]) (by show cQ ["rows","rights","table","ahead","place"] _ ["place","row"] [] (bM HB) ["place","row"];symm_saturate) rfl #[lJ (Xo rfl rfl cI (aA (qv 2) aM))] #[qZ rfl (iI (cO (i:=0) (show(["place","row"]:List Str).Nodup by decide+kernel) rfl (by trivial)) (iI (cO (i:=1) (show(["place","row"]:List Str).Nodup by decide+kernel) rfl (by trivial)) qY)),_] #[qt,_] #[dR aY (hr.mono (by decide)) rfl (aA (gb (qv 1) (Ot bh) (fun _ _=>rfl)) (aA (gb (qv 1) (qv 0) (fun _ _=>rfl)) aM)),_]))))))))))))),fun ds Q Ex h=>zxh h⟩,hm,F.kp,F.binds fun _ _ _ _ _ _ us hl=>by obtain⟨_,_,rfl⟩:=len2 hl;exact rfl⟩
abbrev KQ:Stmt:=top 26
theorem gF:aB ["hand","sheets"] ["hand","sheets"] (bM KQ):=by nofun
theorem zi3(F:fK K "sheets_with" "sheets_with" KQ f fd)(hm:mg "sheets_with" =some (.ref f)):cP P w K mg base "sheets_with" 1 ["hand","sheets"] (wF c):=
 ⟨f,fd,iT F gF (fun _ _ _ h=>zj6 h) fun cdv A outer s H E hr F0=>⟨zet K c,by
  have nd:=gF.nd;have hu:=cD hr;exact(bU (by exact(gq (by exact(eE (by exact(nO (own:= ["sheet"]) (N' := ["sheet","hand"]) (by show cQ ["hand","sheets"] _ ["sheet"] [0] (bM KQ) ["sheet","hand"];symm_saturate) rfl #[lJ (nq (qv 1))] #[cO (i:=0) (show(["sheet","hand"]:List Str).Nodup by decide+kernel) rfl (by trivial),_] #[u9 (z3d (hu1 hu) (qv 1) (qv 0) (by with_unfolding_all rfl)),_] #[qv 0,_]))))))),fun ds Q Ex h=>zjw h⟩,hm,F.kp,F.binds fun _ _ _ _ _ _ us hl=>by obtain⟨_,_,rfl⟩:=len2 hl;exact rfl⟩
abbrev Um:Stmt:=top 7
theorem qe:aB ["one","other"] ["one","other"] (bM Um):=by nofun
theorem z0h(F:fK K "plus" "plus" Um f fd)(hm:mg "plus" =some (.ref f))(aY:Kz P w K mg base c):cP P w K mg base "plus" 3 ["one","other"] (Bv c):=
 ⟨f,fd,iT F qe (fun _ _ _ h=>z28 h) fun cdv A outer s H E hr F0=>⟨zt9 K c,by
  have nd:=qe.nd;have hu:=cD hr;exact(bU #[gq #[dR aY (hr.mono (by decide)) rfl (aA (bA (fun _=>zdt) (bA (fun _=>ji) (gb (qv 0) bh (fun _ _=>rfl)) (gb (qv 1) bh (fun _ _=>rfl))) (bA (fun _=>ji) (gb (qv 1) bh (fun _ _=>rfl)) (gb (qv 0) bh (fun _ _=>rfl)))) (aA (bA (fun _=>ji) (gb (qv 0) bh (fun _ _=>rfl)) (gb (qv 1) bh (fun _ _=>rfl))) aM))]]),fun ds Q Ex h=>z3r h⟩,hm,F.kp,F.binds fun _ _ _ _ _ _ us hl=>by obtain⟨_,_,rfl⟩:=len2 hl;exact rfl⟩
abbrev Uo:Stmt:=top 9
theorem oh:aB ["some","reached","part"] ["some"] (bM Uo):=by nofun
theorem zxq(F:fK K "total" "total" Uo f fd)(hm:mg "total" =some (.ref f))(jz:zs0 P w K mg base c):cP P w K mg base "total" 4 ["some"] (Bw c):=
 ⟨f,fd,iT F oh (fun _ _ _ h=>zzw h) fun cdv A outer s H E hr F0=>⟨zpn K c,by
  have nd:=oh.nd;have hu:=cD hr;exact(bC #[dO (i:=1) nd rfl (by trivial) #[ur (aA bh (aA bh aM))]]
   #[bC #[uw rfl #[qv 0] #[cO (i:=2) nd rfl (by trivial)]
   #[bU #[dO (i:=1) nd rfl (by trivial) #[dR jz (hr.mono (by decide)) rfl (aA (qv 1) (aA (qv 2) aM))]]]]
   #[bU #[gq #[qv 1]]]]),fun ds Q Ex h=>z1y h⟩,hm,F.kp,F.binds fun _ _ _ _ _ _ us hl=>by obtain⟨_,rfl⟩:=len1 hl;exact rfl⟩
abbrev KR:Stmt:=top 28
theorem ou:aB ["hand","other","sheets","both","through_works"] ["hand","other","sheets"] (bM KR):=by nofun
theorem zxw(F:fK K "share" "share" KR f fd)(hm:mg "share" =some (.ref f))(aN:T7 P w K mg base c)(gQ:zpq P w K mg base c)(jz:zs0 P w K mg base c)(aV:mg "len" =none):cP P w K mg base "share" 5 ["hand","other","sheets"] (GQ c):=
 ⟨f,fd,iT F ou (fun _ _ _ h=>z0v h) fun cdv A outer s H E hr F0=>⟨zpu K c,by
  have nd:=ou.nd;have hu:=cD hr;exact(bC #[dO (i:=3) nd rfl (by trivial) #[dR aN (hr.mono (by decide)) rfl (aA (qv 1) (aA (dR aN (hr.mono (by decide)) rfl (aA (qv 0) (aA (qv 2) aM))) aM))]]
   (by exact(bC (by exact(dO (i:=4) nd rfl (by trivial) (by exact(dR gQ (hr.mono (by decide)) rfl (aA (eE (by exact(nO (own:= ["sheet"]) (N' := ["sheet"]) (by show cQ ["hand","other","sheets","both","through_works"] _ ["sheet"] [] (bM KR) ["sheet"];symm_saturate) rfl #[lJ (nq (qv 3))] #[cO (i:=0) (show(["sheet"]:List Str).Nodup by decide+kernel) rfl (by trivial),_] #[qt,_] #[ur (aA (Ot bh) (aA (nM (fun _=>Zv) rfl aV boot_len (aA (qv 0) aM)) aM)),_]))) aM)))))
   #[bU #[gq #[Wn (jM (fun _=>fY hu) (qv 0) (qv 1) (aL _)) (dR jz (hr.mono (by decide)) rfl (aA (ur (aA (nM (fun _=>rW) rfl aV boot_len (aA (qv 3) aM)) (aA bh aM))) (aA (qv 4) aM))) (qv 4)]]]))),fun ds Q Ex h=>z0c h⟩,hm,F.kp,F.binds fun _ _ _ _ _ _ us hl=>by obtain⟨_,_,_,rfl⟩:=qM hl;exact rfl⟩
abbrev KY:Stmt:=top 27
theorem mF:aB ["hand","hands","sheets"] ["hand","hands","sheets"] (bM KY):=by nofun
theorem ztn(F:fK K "shares" "shares" KY f fd)(hm:mg "shares" =some (.ref f))(mY:cP P w K mg base "share" 5 ["hand","other","sheets"] (GQ c)):cP P w K mg base "shares" 6 ["hand","hands","sheets"] (GR c):=
 ⟨f,fd,iT F mF (fun _ _ _ h=>zxs h) fun cdv A outer s H E hr F0=>⟨zmv K c,by
  have nd:=mF.nd;have hu:=cD hr;exact(bU (by exact(gq (by exact(eE (by exact(nO (own:= ["other"]) (N' := ["other","hand","sheets"]) (by show cQ ["hand","hands","sheets"] _ ["other"] [0,2] (bM KY) ["other","hand","sheets"];symm_saturate) rfl #[lJ (nq (qv 1))] #[cO (i:=0) (show(["other","hand","sheets"]:List Str).Nodup by decide+kernel) rfl (by trivial),_] #[qt,_] #[dR mY (hr.mono (by decide)) rfl (aA (qv 1) (aA (qv 0) (aA (qv 2) aM))),_]))))))),fun ds Q Ex h=>zw4 h⟩,hm,F.kp,F.binds fun _ _ _ _ _ _ us hl=>by obtain⟨_,_,_,rfl⟩:=qM hl;exact rfl⟩
abbrev Ur:Stmt:=top 8
theorem oA:aB ["one","other"] ["one","other"] (bM Ur):=by nofun
theorem zxy(F:fK K "minus" "minus" Ur f fd)(hm:mg "minus" =some (.ref f))(aY:Kz P w K mg base c):cP P w K mg base "minus" 3 ["one","other"] (Gw c):=
 ⟨f,fd,iT F oA (fun _ _ _ h=>zz0 h) fun cdv A outer s H E hr F0=>⟨zqb K c,by
  have nd:=oA.nd;have hu:=cD hr;exact(bU #[gq #[dR aY (hr.mono (by decide)) rfl (aA (bA (fun _=>Jc) (bA (fun _=>ji) (gb (qv 0) bh (fun _ _=>rfl)) (gb (qv 1) bh (fun _ _=>rfl))) (bA (fun _=>ji) (gb (qv 1) bh (fun _ _=>rfl)) (gb (qv 0) bh (fun _ _=>rfl)))) (aA (bA (fun _=>ji) (gb (qv 0) bh (fun _ _=>rfl)) (gb (qv 1) bh (fun _ _=>rfl))) aM))]]),fun ds Q Ex h=>z0y h⟩,hm,F.kp,F.binds fun _ _ _ _ _ _ us hl=>by obtain⟨_,_,rfl⟩:=len2 hl;exact rfl⟩
abbrev Us:Stmt:=top 30
theorem jg:aB ["sheet"] ["sheet"] (bM Us):=by nofun
theorem zln(F:fK K "mean_mark" "mean_mark" Us f fd)(hm:mg "mean_mark" =some (.ref f))(aY:Kz P w K mg base c)(tU:mg "sum" =none)(aV:mg "len" =none):cP P w K mg base "mean_mark" 3 ["sheet"] (GX c):=
 ⟨f,fd,iT F jg (fun _ _ _ h=>zn2 h) fun cdv A outer s H E hr F0=>⟨zgv K c,by
  have nd:=jg.nd;have hu:=cD hr;exact(bU #[gq #[dR aY (hr.mono (by decide)) rfl (aA (z1s rfl rfl tU (qv 0)) (aA (nM (fun _=>Zv) rfl aV boot_len (aA (qv 0) aM)) aM))]]),fun ds Q Ex h=>znu h⟩,hm,F.kp,F.binds fun _ _ _ _ _ _ us hl=>by obtain⟨_,rfl⟩:=len1 hl;exact rfl⟩
abbrev KZ:Stmt:=top 29
theorem mG:aB ["hand","sheets"] ["hand","sheets"] (bM KZ):=by nofun
theorem zr3(F:fK K "excess" "excess" KZ f fd)(hm:mg "excess" =some (.ref f))(gQ:zpq P w K mg base c)(mZ:cP P w K mg base "minus" 3 ["one","other"] (Gw c))(gG:cP P w K mg base "mean_mark" 3 ["sheet"] (GX c))(aN:T7 P w K mg base c):cP P w K mg base "excess" 5 ["hand","sheets"] (G3 c):=
 ⟨f,fd,iT F mG (fun _ _ _ h=>zwa h) fun cdv A outer s H E hr F0=>⟨S7 K c,by
  have nd:=mG.nd;have hu:=cD hr;exact(bU (by exact(gq (by exact(dR gQ (hr.mono (by decide)) rfl (aA (eE (by exact(nO (own:= ["sheet"]) (N' := ["sheet","hand"]) (by show cQ ["hand","sheets"] _ ["sheet"] [0] (bM KZ) ["sheet","hand"];symm_saturate) rfl #[lJ (nq (dR aN (hr.mono (by decide)) rfl (aA (qv 0) (aA (qv 1) aM))))] #[cO (i:=0) (show(["sheet","hand"]:List Str).Nodup by decide+kernel) rfl (by trivial),_] #[qt,_] #[dR mZ (hr.mono (by decide)) rfl (aA (ur (aA (Zu (hu1 hu) (qv 0) (qv 1)) (aA bh aM))) (aA (dR gG (hr.mono (by decide)) rfl (aA (qv 0) aM)) aM)),_]))) aM)))))),fun ds Q Ex h=>zww h⟩,hm,F.kp,F.binds fun _ _ _ _ _ _ us hl=>by obtain⟨_,_,rfl⟩:=len2 hl;exact rfl⟩
abbrev BZ:Stmt:=top 25
theorem fj:aB ["hands","sheets","lefts","rights","numbers"] ["hands","sheets"] (bM BZ):=by nofun
theorem zgm(F:fK K "group_leanings" "group_leanings" BZ f fd)(hm:mg "group_leanings" =some (.ref f))(lA:cP P w K mg base "solved" 3 ["rows","rights"] (GJ c))(lB:cP P w K mg base "shares" 6 ["hand","hands","sheets"] (GR c))(lC:cP P w K mg base "excess" 5 ["hand","sheets"] (G3 c))(aN:T7 P w K mg base c)(aV:mg "len" =none):cP P w K mg base "group_leanings" 7 ["hands","sheets"] (G4 c):=
 ⟨f,fd,iT F fj (fun _ _ _ h=>zg1 h) fun cdv A outer s H E hr F0=>⟨zc3 K c,by
  have nd:=fj.nd;have hu:=cD hr;exact(bC (by exact(Es (by exact(Eo (i:=2) nd rfl rfl (own:= ["hand"]) (N' := ["hand","hands","sheets"]) (by show cQ ["hands","sheets","lefts","rights","numbers"] _ ["hand"] [0,1] (bM BZ) ["hand","hands","sheets"];symm_saturate) rfl #[lJ (nq (eE #[Jp (qv 0) (Jo bh) Jm]))] #[cO (i:=0) (show(["hand","hands","sheets"]:List Str).Nodup by decide+kernel) rfl (by trivial),_] #[qt,_] #[dR lB (hr.mono (by decide)) rfl (aA (qv 0) (aA (qv 1) (aA (qv 2) aM))),_]))))
   (by exact(bC (by exact(Es (by exact(Eo (i:=3) nd rfl rfl (own:= ["hand"]) (N' := ["hand","sheets"]) (by show cQ ["hands","sheets","lefts","rights","numbers"] _ ["hand"] [1] (bM BZ) ["hand","sheets"];symm_saturate) rfl #[lJ (nq (eE #[Jp (qv 0) (Jo bh) Jm]))] #[cO (i:=0) (show(["hand","sheets"]:List Str).Nodup by decide+kernel) rfl (by trivial),_] #[qt,_] #[dR lC (hr.mono (by decide)) rfl (aA (qv 0) (aA (qv 1) aM)),_]))))
   (by exact(bC (by exact(Es (by exact(Eo (i:=4) nd rfl rfl (own:= ["hand"]) (N' := ["hand","sheets"]) (by show cQ ["hands","sheets","lefts","rights","numbers"] _ ["hand"] [1] (bM BZ) ["hand","sheets"];symm_saturate) rfl #[lJ (nq (qv 0))] #[cO (i:=0) (show(["hand","sheets"]:List Str).Nodup by decide+kernel) rfl (by trivial),_] #[qt,_] #[ur (aA (nM (fun _=>rW) rfl aV boot_len (aA (dR aN (hr.mono (by decide)) rfl (aA (qv 0) (aA (qv 1) aM))) aM)) (aA bh aM)),_]))))
   #[bU #[gq #[dR lA (hr.mono (by decide)) rfl (aA (eE #[vW (eE #[oX (aA (qv 4) aM)]) (qv 2)]) (aA (eE #[vW (eE #[oX (aA (ur (aA bh (aA bh aM))) aM)]) (qv 3)]) aM))]]]))))),fun ds Q Ex h=>zg6 h⟩,hm,F.kp,F.binds fun _ _ _ _ _ _ us hl=>by obtain⟨_,_,rfl⟩:=len2 hl;exact rfl⟩
abbrev K1:Stmt:=top 24
theorem jJ:aB ["rows","found","hands","sheets","hand","leaning"] ["rows"] (bM K1):=by nofun
theorem zo5(F:fK K "leanings" "leanings" K1 f fd)(hm:mg "leanings" =some (.ref f))(lD:mU P w K mg base "groups" 3 ["rows"] (GP c))(dB:cP P w K mg base "group_leanings" 7 ["hands","sheets"] (G4 c))(dY:zjp P w K mg base c)(dN:mg "list" =none)(je:mg "zip" =none):mU P w K mg base "leanings" 8 ["rows"] (za c):=
 ⟨f,fd,yH F jJ (fun _ _ _ h=>zrc h) fun cdv A outer s H E hr F0=>⟨zie K c,by
  have nd:=jJ.nd;have hu:=cD hr;exact(bC #[QV (i:=1) nd rfl (by trivial) #[Fl]]
   (by exact(bC (by exact(uw rfl #[dR lD.fn (hr.mono (by decide)) rfl (aA (qv 0) aM)] #[cO (i:=2) nd rfl (by trivial)]
   (by exact(bC (by exact(dO (i:=3) nd rfl (by trivial) (by exact(eE (by exact(zx5 rfl rfl dN (dR dY.fn (hr.mono (by decide)) rfl (aA (eE (by exact(nO (own:= ["row"]) (N' := ["row","hands"]) (by show cQ ["rows","found","hands","sheets","hand","leaning"] _ ["row"] [2] (bM K1) ["row","hands"];symm_saturate) rfl #[lJ (nq (qv 0))] #[cO (i:=0) (show(["row","hands"]:List Str).Nodup by decide+kernel) rfl (by trivial),_] #[u9 (jM (fun _=>qw) (gb (qv 0) bh (fun _ _=>rfl)) (qv 1) (by with_unfolding_all rfl)),_] #[qv 0,_]))) aM))))))))
   #[bU #[Xb rfl #[Qp rfl rfl je (aA (qv 2) (aA (dR dB (hr.mono (by decide)) rfl (aA (qv 2) (aA (qv 3) aM))) aM))] #[qZ rfl (iI (cO (i:=4) nd rfl (by trivial)) (iI (cO (i:=5) nd rfl (by trivial)) qY))]
   #[bU #[Zx (i:=1) (hu1 hu) rfl (by trivial) #[qv 4] #[qv 5]]]]]))))
   #[bU #[QX #[Yt (i:=1) rfl (by trivial)]]]))),fun ds Q Ex h=>zq9 h⟩,hm,F.kp,F.binds fun _ _ _ _ _ _ us hl=>by obtain⟨_,rfl⟩:=len1 hl;exact rfl⟩
abbrev wN:Stmt:=top 38
theorem iy:aB ["_law_rows_here","_law_found","_law_work","_law_hand","_law_mark","_law_one","_law_group"] ["_law_rows_here"] (bM wN):=by nofun
theorem zla(F:fK K "_law_groups" "_law_groups" wN f fd)(hm:mg "_law_groups" =some (.ref f))(cg:mg "sorted" =none)(mz:mg "set" =none):cP P w K mg base "_law_groups" 1 ["_law_rows_here"] (G5 c):=
 ⟨f,fd,iT F iy (fun _ _ _ h=>zm5 h) fun cdv A outer s H E hr F0=>⟨zfv K c,by
  have nd:=iy.nd;have hu:=cD hr;exact(bC #[dO (i:=1) nd rfl (by trivial) #[eE #[oX aM]]]
   (by exact(bC (by exact(uw rfl #[qv 0] #[qZ rfl (iI (cO (i:=2) nd rfl (by trivial)) (iI (cO (i:=3) nd rfl (by trivial)) (iI (cO (i:=4) nd rfl (by trivial)) qY)))]
   (by exact(bC (by exact(dO (i:=5) nd rfl (by trivial) (by exact(eE (by exact(vW (eE #[oX (aA (qv 3) aM)]) (eE (by exact(nO (own:= ["_law_name","_law_other","_law_more"]) (N' := ["_law_name","_law_other","_law_more","_law_work"]) (by show cQ ["_law_rows_here","_law_found","_law_work","_law_hand","_law_mark","_law_one","_law_group"] _ ["_law_name","_law_other","_law_more"] [2] (bM wN) ["_law_name","_law_other","_law_more","_law_work"];symm_saturate) rfl #[lJ (nq (qv 0))] #[qZ rfl (iI (cO (i:=0) (show(["_law_name","_law_other","_law_more","_law_work"]:List Str).Nodup by decide+kernel) rfl (by trivial)) (iI (cO (i:=1) (show(["_law_name","_law_other","_law_more","_law_work"]:List Str).Nodup by decide+kernel) rfl (by trivial)) (iI (cO (i:=2) (show(["_law_name","_law_other","_law_more","_law_work"]:List Str).Nodup by decide+kernel) rfl (by trivial)) qY))),_] #[u9 (jM (fun _=>fY hu) (qv 0) (qv 3) (aL _)),_] #[qv 1,_])))))))))
   (by exact(bC (by exact(uw rfl #[qv 1] #[cO (i:=6) nd rfl (by trivial)]
   (by exact(bU (by exact(nH (by exact(jM (fun _=>u5 hu) (eE (by exact(nO (own:= ["_law_other"]) (N' := ["_law_other","_law_one"]) (by show cQ ["_law_rows_here","_law_found","_law_work","_law_hand","_law_mark","_law_one","_law_group"] _ ["_law_other"] [5] (bM wN) ["_law_other","_law_one"];symm_saturate) rfl #[lJ (nq (qv 6))] #[cO (i:=0) (show(["_law_other","_law_one"]:List Str).Nodup by decide+kernel) rfl (by trivial),_] #[u9 (jM (fun _=>qw) (qv 0) (qv 1) (by with_unfolding_all rfl)),_] #[qv 0,_]))) (eE #[oX aM]) (aL _)))
   #[bU #[dO (i:=5) nd rfl (by trivial) #[eE #[vW (qv 5) (qv 6)]]]]
   #[nG]))))))
   (by exact(bU (by exact(dO (i:=1) nd rfl (by trivial) (by exact(eE (by exact(vW (eE (by exact(nO (own:= ["_law_group"]) (N' := ["_law_group","_law_one"]) (by show cQ ["_law_rows_here","_law_found","_law_work","_law_hand","_law_mark","_law_one","_law_group"] _ ["_law_group"] [5] (bM wN) ["_law_group","_law_one"];symm_saturate) rfl #[lJ (nq (qv 1))] #[cO (i:=0) (show(["_law_group","_law_one"]:List Str).Nodup by decide+kernel) rfl (by trivial),_] #[u9 (jM (fun _=>fY hu) (eE (by exact(nO (own:= ["_law_other"]) (N' := ["_law_other","_law_one"]) (by show cQ ["_law_group","_law_one"] _ ["_law_other"] [1] (zyg _ (bM wN)) ["_law_other","_law_one"];symm_saturate) rfl #[lJ (nq (qv 0))] #[cO (i:=0) (show(["_law_other","_law_one"]:List Str).Nodup by decide+kernel) rfl (by trivial),_] #[u9 (jM (fun _=>qw) (qv 0) (qv 1) (by with_unfolding_all rfl)),_] #[qv 0,_]))) (eE #[oX aM]) (aL _)),_] #[qv 0,_]))) (eE #[oX (aA (qv 5) aM)])))))))))))))))
   (by exact(bU (by exact(gq (by exact(eE (by exact(Xf (fun _=>Y5 hu) rfl cg boot_sorted (aA (eE (by exact(nO (own:= ["_law_group"]) (N' := ["_law_group"]) (by show cQ ["_law_rows_here","_law_found","_law_work","_law_hand","_law_mark","_law_one","_law_group"] _ ["_law_group"] [] (bM wN) ["_law_group"];symm_saturate) rfl #[lJ (nq (qv 1))] #[cO (i:=0) (show(["_law_group"]:List Str).Nodup by decide+kernel) rfl (by trivial),_] #[qt,_] #[eE #[Y0 rfl rfl cg rfl mz (aA (qv 0) aM)],_]))) aM)))))))))))),fun ds Q Ex h=>zmh h⟩,hm,F.kp,F.binds fun _ _ _ _ _ _ us hl=>by obtain⟨_,rfl⟩:=len1 hl;exact rfl⟩
abbrev Ut:Stmt:=top 33
theorem gH:aB ["_law_one","_law_other"] ["_law_one","_law_other"] (bM Ut):=by nofun
theorem zi4(F:fK K "_law_divisor" "_law_divisor" Ut f fd)(hm:mg "_law_divisor" =some (.ref f))(kY:mg "abs" =none):cP P w K mg base "_law_divisor" 1 ["_law_one","_law_other"] (G8 c):=
 ⟨f,fd,iT F gH (fun _ _ _ h=>zlh h) fun cdv A outer s H E hr F0=>⟨zes K c,by
  have nd:=gH.nd;have hu:=cD hr;exact(bC #[dO (i:=0) nd rfl (by trivial) #[nM (fun _=>Ou) rfl kY boot_abs (aA (qv 0) aM)]]
   #[bC #[dO (i:=1) nd rfl (by trivial) #[nM (fun _=>Ou) rfl kY boot_abs (aA (qv 1) aM)]]
   #[bC #[Wq #[jM (fun _=>uZ) (qv 1) bh (aL _)]
   #[bU #[z3b (i:=0) (j:=1) rfl nd rfl rfl (by decide) rfl rfl (aA (qv 1) (aA (bA (fun _=>jE) (qv 0) (qv 1)) aM)) rfl]]]
   #[bU #[gq #[qv 0]]]]]),fun ds Q Ex h=>zkd h⟩,hm,F.kp,F.binds fun _ _ _ _ _ _ us hl=>by obtain⟨_,_,rfl⟩:=len2 hl;exact rfl⟩
abbrev Uu:Stmt:=top 34
theorem lE:aB ["_law_top","_law_bottom","_law_by"] ["_law_top","_law_bottom"] (bM Uu):=by nofun
theorem zre(F:fK K "_law_low" "_law_low" Uu f fd)(hm:mg "_law_low" =some (.ref f))(fG:cP P w K mg base "_law_divisor" 1 ["_law_one","_law_other"] (G8 c)):cP P w K mg base "_law_low" 2 ["_law_top","_law_bottom"] (G9 c):=
 ⟨f,fd,iT F lE (fun _ _ _ h=>zvo h) fun cdv A outer s H E hr F0=>⟨zjb K c,by
  have nd:=lE.nd;have hu:=cD hr;exact(bC #[dO (i:=2) nd rfl (by trivial) #[dR fG (hr.mono (by decide)) rfl (aA (qv 0) (aA (qv 1) aM))]]
   #[bC #[nH #[jM (fun _=>xX) (qv 1) bh (aL _)]
   #[bU #[dO (i:=2) nd rfl (by trivial) #[bA (fun _=>Jc) bh (qv 2)]]]
   #[nG]]
   #[bU #[gq #[ur (aA (bA (fun _=>rA) (qv 0) (qv 2)) (aA (bA (fun _=>rA) (qv 1) (qv 2)) aM))]]]]),fun ds Q Ex h=>zt7 h⟩,hm,F.kp,F.binds fun _ _ _ _ _ _ us hl=>by obtain⟨_,_,rfl⟩:=len2 hl;exact rfl⟩
abbrev HD:Stmt:=top 40
theorem lF:aB ["_law_rows_here","_law_before","_law_hand","_law_by","_law_due_here","_law_group","_law_many","_law_own","_law_one","_law_top","_law_bottom","_law_share"] ["_law_rows_here","_law_before","_law_hand","_law_by"] (bM HD):=by nofun
theorem zq2(F:fK K "_law_due" "_law_due" HD f fd)(hm:mg "_law_due" =some (.ref f))(fV:cP P w K mg base "_law_groups" 1 ["_law_rows_here"] (G5 c))(jA:cP P w K mg base "_law_low" 2 ["_law_top","_law_bottom"] (G9 c))(aV:mg "len" =none)(iu:mg "int" =none):cP P w K mg base "_law_due" 3 ["_law_rows_here","_law_before","_law_hand","_law_by"] (Hg c):=
 ⟨f,fd,iT F lF (fun _ _ _ h=>zvc h) fun cdv A outer s H E hr F0=>⟨zi6 K c,by
  have nd:=lF.nd;have hu:=cD hr;exact(bC #[QV (i:=4) nd rfl (by trivial) #[Fl]]
   (by exact(bC (by exact(uw rfl #[dR fV (hr.mono (by decide)) rfl (aA (qv 0) aM)] #[cO (i:=5) nd rfl (by trivial)]
   (by exact(bC (by exact(dO (i:=6) nd rfl (by trivial) (by exact(nM (fun _=>rW) rfl aV boot_len (aA (eE (by exact(nO (own:= ["_law_work","_law_one","_law_mark"]) (N' := ["_law_work","_law_one","_law_mark","_law_group"]) (by show cQ ["_law_rows_here","_law_before","_law_hand","_law_by","_law_due_here","_law_group","_law_many","_law_own","_law_one","_law_top","_law_bottom","_law_share"] _ ["_law_work","_law_one","_law_mark"] [5] (bM HD) ["_law_work","_law_one","_law_mark","_law_group"];symm_saturate) rfl #[lJ (nq (qv 0))] #[qZ rfl (iI (cO (i:=0) (show(["_law_work","_law_one","_law_mark","_law_group"]:List Str).Nodup by decide+kernel) rfl (by trivial)) (iI (cO (i:=1) (show(["_law_work","_law_one","_law_mark","_law_group"]:List Str).Nodup by decide+kernel) rfl (by trivial)) (iI (cO (i:=2) (show(["_law_work","_law_one","_law_mark","_law_group"]:List Str).Nodup by decide+kernel) rfl (by trivial)) qY))),_] #[u9 (jM (fun _=>qw) (qv 1) (qv 3) (by with_unfolding_all rfl)),_] #[qv 1,_]))) aM)))))
   (by exact(bC (by exact(dO (i:=7) nd rfl (by trivial) (by exact(nM (fun _=>rW) rfl aV boot_len (aA (eE (by exact(nO (own:= ["_law_work","_law_one","_law_mark"]) (N' := ["_law_work","_law_one","_law_mark","_law_hand"]) (by show cQ ["_law_rows_here","_law_before","_law_hand","_law_by","_law_due_here","_law_group","_law_many","_law_own","_law_one","_law_top","_law_bottom","_law_share"] _ ["_law_work","_law_one","_law_mark"] [2] (bM HD) ["_law_work","_law_one","_law_mark","_law_hand"];symm_saturate) rfl #[lJ (nq (qv 0))] #[qZ rfl (iI (cO (i:=0) (show(["_law_work","_law_one","_law_mark","_law_hand"]:List Str).Nodup by decide+kernel) rfl (by trivial)) (iI (cO (i:=1) (show(["_law_work","_law_one","_law_mark","_law_hand"]:List Str).Nodup by decide+kernel) rfl (by trivial)) (iI (cO (i:=2) (show(["_law_work","_law_one","_law_mark","_law_hand"]:List Str).Nodup by decide+kernel) rfl (by trivial)) qY))),_] #[u9 (jM (fun _=>fY hu) (qv 1) (qv 3) (aL _)),_] #[qv 1,_]))) aM)))))
   #[bU #[uw rfl #[qv 5] #[cO (i:=8) nd rfl (by trivial)]
   #[bC #[z3l (Zu (hu1 hu) (qv 1) (qv 8)) (qZ rfl (iI (cO (i:=9) nd rfl (by trivial)) (iI (cO (i:=10) nd rfl (by trivial)) qY)))]
   #[bC #[nH #[jM (fun _=>qw) (qv 2) (qv 5) (by with_unfolding_all rfl)]
   #[bC #[dO (i:=11) nd rfl (by trivial) #[bA (fun _=>Jc) (bA (fun _=>ji) (qv 6) (Jl (fun _=>Js) rfl iu boot_int (aA (qp (fun _=>fY hu) (qv 8) (qv 2) (aL _)) aM))) (qv 7)]]
   #[bC #[dO (i:=9) nd rfl (by trivial) #[bA (fun _=>zdt) (bA (fun _=>ji) (qv 9) (qv 6)) (bA (fun _=>ji) (bA (fun _=>ji) (qv 10) (qv 3)) (qv 11))]]
   #[bU #[dO (i:=10) nd rfl (by trivial) #[bA (fun _=>ji) (qv 10) (qv 6)]]]]]
   #[nG]]
   #[bU #[Zx (i:=4) (hu1 hu) rfl (by trivial) #[qv 8] #[dR jA (hr.mono (by decide)) rfl (aA (qv 9) (aA (qv 10) aM))]]]]]]]))))))
   #[bU #[z09 4 #[gq #[qv 4]]]]))),fun ds Q Ex h=>zvd h⟩,hm,F.kp,F.binds fun _ _ _ _ _ _ us hl=>by obtain⟨_,_,_,_,rfl⟩:=Hy hl;exact rfl⟩
abbrev Uv:Stmt:=top 39
theorem jh:aB ["_law_rows_here","_law_hand","_law_by","_law_moved_here","_law_work","_law_one","_law_mark"] ["_law_rows_here","_law_hand","_law_by"] (bM Uv):=by nofun
theorem zm3(F:fK K "_law_moved" "_law_moved" Uv f fd)(hm:mg "_law_moved" =some (.ref f))(iu:mg "int" =none):cP P w K mg base "_law_moved" 1 ["_law_rows_here","_law_hand","_law_by"] (Hf c):=
 ⟨f,fd,iT F jh (fun _ _ _ h=>zod h) fun cdv A outer s H E hr F0=>⟨Kg K c,by
  have nd:=jh.nd;have hu:=cD hr;exact(bC #[DY (i:=3) nd rfl (by trivial) #[oX aM]]
   #[bC #[uw rfl #[qv 0] #[qZ rfl (iI (cO (i:=4) nd rfl (by trivial)) (iI (cO (i:=5) nd rfl (by trivial)) (iI (cO (i:=6) nd rfl (by trivial)) qY)))]
   #[bU #[Jq (i:=3) (fun _=>PN) PySem.F.slot_list_append PySem.F.type_list_append rfl (by trivial) #[aA (ur (aA (qv 4) (aA (qv 5) (aA (bA (fun _=>zdt) (qv 6) (bA (fun _=>ji) (qv 2) (Jl (fun _=>Js) rfl iu boot_int (aA (qp (fun _=>fY hu) (qv 5) (qv 1) (aL _)) aM)))) aM)))) aM]]]]
   #[bU #[gq #[qv 3]]]]),fun ds Q Ex h=>zn4 h⟩,hm,F.kp,F.binds fun _ _ _ _ _ _ us hl=>by obtain⟨_,_,_,rfl⟩:=qM hl;exact rfl⟩
abbrev oE:Stmt:=top 41
theorem tV:aB ["_law_script","_law_rows_here","_law_before","_law_hand","_law_by"] ["_law_script"] (bM oE):=by nofun
theorem z5v(hr:eU 8 (A.deeper (envOfC "law" (bM oE) s.heap.objs.size f cdv)))(cF:T6 P w K mg base c)(bK:T8 P w K mg base c)(dD:T9 P w K mg base c)(aG:Ky P w K mg base c)(bT:Ua P w K mg base c)(aV:mg "len" =none):pL (jK (gO P w) P w K mg base ["_law_script","_law_rows_here","_law_before","_law_hand","_law_by"] "law" (bM oE) f cdv A outer s H E) F0 H (rG oE) (Hh K c):=by
 have nd:=tV.nd;have hu:(A.deeper (envOfC "law" (bM oE) s.heap.objs.size f cdv)).units+21<cLine:=by have:=hr.units;omega
 exact(bC #[dO (i:=1) nd rfl (by trivial) #[dR cF (hr.mono (by decide)) rfl (aA (qv 0) (aA (bA (fun _=>zdt) bh (bA (fun _=>jE) (dR aG (hr.mono (by decide)) rfl (aA (qv 0) (aA bh aM))) bh)) (aA (bA (fun _=>zdt) bh (bA (fun _=>jE) (dR aG (hr.mono (by decide)) rfl (aA (qv 0) (aA bh aM))) bh)) aM)))]]
 #[bC #[dO (i:=2) nd rfl (by trivial) #[JT #[JH bK (hr.mono (by decide)) rfl (aA (qv 1) aM)]]]
 #[bC #[nH #[jM (fun _=>z5j hu) (JT #[JH bK (hr.mono (by decide)) rfl (aA (eE #[z26 (qv 1)]) aM)]) (qv 2) (aL _)]
 #[bU #[gq #[Wk]]]
 #[nG]]
 #[bC #[nH #[jM (fun _=>fY hu) (qv 1) (eE #[oX aM]) (aL _)]
 #[bU #[gq #[qp (fun _=>ZM hu) (qv 2) (JT Fl) (aL _)]]]
 #[nG]]
 #[bC #[dO (i:=3) nd rfl (by trivial) #[gb (gb (qv 1) (bA (fun _=>jE) (dR aG (hr.mono (by decide)) rfl (aA (qv 0) (aA bh aM))) (nM (fun _=>rW) rfl aV boot_len (aA (qv 1) aM))) (fun _ _=>rfl)) bh (fun _ _=>rfl)]]
 #[bC #[dO (i:=4) nd rfl (by trivial) #[bA (fun _=>zdt) bh (bA (fun _=>jE) (dR aG (hr.mono (by decide)) rfl (aA (qv 0) (aA bh aM))) (bA (fun _=>Ww) bh bh))]]
 #[bU #[gq #[qp (fun _=>ZM hu) (JT #[JH bK (hr.mono (by decide)) rfl (aA (dR bT (hr.mono (by decide)) rfl (aA (qv 1) (aA (qv 3) (aA (qv 4) aM)))) aM)]) (dR dD (hr.mono (by decide)) rfl (aA (qv 1) (aA (qv 2) (aA (qv 3) (aA (qv 4) aM))))) (aL _)]]]]]]]])
theorem zy1(F:fK K "law" "law" oE f fd)(cF:T6 P w K mg base c)(bK:T8 P w K mg base c)(dD:T9 P w K mg base c)(aG:Ky P w K mg base c)(bT:Ua P w K mg base c)(aV:mg "len" =none):d7 P w K mg base (gO P w) 9 f fd ["_law_script"] (jO K (J9 c)):=
 iT F tV (fun _ _ _ h=>z5d h) fun cdv A outer s H E hr F0=>⟨Hh K c,z5v c hr cF bK dD aG bT aV,fun ds Q Ex h=>z5t h⟩
theorem z53(F:fK K "law" "law" oE f fd)(hm:mg "law" =some (.ref f))(cF:T6 P w K mg base c)(bK:T8 P w K mg base c)(dD:T9 P w K mg base c)(aG:Ky P w K mg base c)(bT:Ua P w K mg base c)(aV:mg "len" =none):cP P w K mg base "law" 9 ["_law_script"] (J9 c):=
 ⟨f,fd,zy1 c F cF bK dD aG bT aV,hm,F.kp,F.binds fun _ _ _ _ _ _ us hl=>by obtain⟨_,rfl⟩:=len1 hl;exact rfl⟩
end
def ds:List (Str×Stmt):= [Hd.d "_law_names" Ub,Hd.d "_law_cell" Uc,Hd.d "_law_marked" Ud,Hd.d "_law_rows" Ue,Hd.d "meet" KC,Hd.d "joined" KD,Hd.d "by_work" Ug,Hd.d "groups" Uh,Hd.d "divisor" Ui,Hd.d "whole_row" KH,Hd.d "without" KJ,Hd.d "cleared" KN,Hd.d "fraction" Uj,Hd.d "exchanged" Uk,Hd.d "led" Ul,Hd.d "solved" HB,Hd.d "sheets_with" KQ,Hd.d "plus" Um,Hd.d "total" Uo,Hd.d "share" KR,Hd.d "shares" KY,Hd.d "minus" Ur,Hd.d "mean_mark" Us,Hd.d "excess" KZ,Hd.d "group_leanings" BZ,Hd.d "leanings" K1,Hd.d "_law_groups" wN,Hd.d "_law_divisor" Ut,Hd.d "_law_low" Uu,Hd.d "_law_due" HD,Hd.d "_law_moved" Uv,Hd.d "law" oE]
def obs(K:W.Frag):Bool×List (Option FuncData)×List (Option FuncData):=(
 decide (Hd.isRef (W.nsIn K mainGlobals "NoFraction")=true)&&(
 decide (Hd.isRef (W.nsIn K mainGlobals "NoAnswer")=true)&&(
 decide (W.excIn K (Hd.adr (W.nsIn K mainGlobals "NoFraction")) [.type "ValueError",.type "Exception",.type "BaseException",.type "object"] "ValueError.__new__" =true)&&(
 decide (W.excIn K (Hd.adr (W.nsIn K mainGlobals "NoAnswer")) [.type "ValueError",.type "Exception",.type "BaseException",.type "object"] "ValueError.__new__" =true)&&(
 decide (W.nsIn K mainGlobals "range" =some none)&&(
 decide (W.nsIn K mainGlobals "int" =some none)&&(
 decide (W.nsIn K mainGlobals "len" =some none)&&(
 decide (W.nsIn K mainGlobals "any" =some none)&&(
 decide (W.nsIn K mainGlobals "list" =some none)&&(
 decide (W.nsIn K mainGlobals "sorted" =some none)&&(
 decide (W.nsIn K mainGlobals "set" =some none)&&(
 decide (W.nsIn K mainGlobals "abs" =some none)&&(
 decide (W.nsIn K mainGlobals "zip" =some none)&&(
 decide (W.nsIn K mainGlobals "enumerate" =some none)&&(
 decide (W.nsIn K mainGlobals "sum" =some none)&&(true))))))))))))))),
 Hd.seen K ds,[])
def good:Bool×List (Option FuncData)×List (Option FuncData):=(true,Hd.due ds,
 [])
theorem z2j{l:W.OpenLaw}{w:World}{K:W.Frag}{h:Heap}{mg:Str ->Option Value}{fa:Addr}(O:obs K=good)(X:K.In h)(G:h.Ns mainGlobals mg)(hfa:mg "law" =some (.ref fa)):
 ∃fd:FuncData,(∀(s:Shared) (v:Value),BindsTo s fd ⟨[v],[]⟩ [("_law_script",v)])/\∀base:Heap,K.In base ->base.Ns mainGlobals mg ->d7 l.prog w K mg base (gO l.prog w) 9 fa fd ["_law_script"] (jO K Je):=by
 obtain⟨B,L⟩:=Prod.mk.inj O;obtain⟨L,M⟩:=Prod.mk.inj L;obtain⟨m5,B⟩:=Hd.aT B;obtain⟨pq,B⟩:=Hd.aT B;obtain⟨m7,B⟩:=Hd.aT B;obtain⟨pA,B⟩:=Hd.aT B;obtain⟨vD,B⟩:=Hd.aT B;obtain⟨HF,B⟩:=Hd.aT B;obtain⟨HJ,B⟩:=Hd.aT B;obtain⟨HN,B⟩:=Hd.aT B;obtain⟨zq,B⟩:=Hd.aT B;obtain⟨tW,B⟩:=Hd.aT B;obtain⟨HS,B⟩:=Hd.aT B;obtain⟨HW,B⟩:=Hd.aT B;obtain⟨HX,B⟩:=Hd.aT B;obtain⟨oF,B⟩:=Hd.aT B;obtain⟨HY,B⟩:=Hd.aT B
 let c:Cls:={bI:=Hd.adr (W.nsIn K mainGlobals "NoFraction"),dG:=Hd.adr (W.nsIn K mainGlobals "NoAnswer")}
 have dW:mg "NoFraction" =some (.ref c.bI)/\nF K c.bI:=⟨W.mg_of X G (Hd.adr_of m5),m7⟩;have fU:mg "NoAnswer" =some (.ref c.dG)/\nF K c.dG:=⟨W.mg_of X G (Hd.adr_of pq),pA⟩;have bQ:mg "range" =none:=W.mg_none_of X G vD;have iu:mg "int" =none:=W.mg_none_of X G HF;have aV:mg "len" =none:=W.mg_none_of X G HJ;have tO:mg "any" =none:=W.mg_none_of X G HN;have dN:mg "list" =none:=W.mg_none_of X G zq;have cg:mg "sorted" =none:=W.mg_none_of X G tW;have mz:mg "set" =none:=W.mg_none_of X G HS;have kY:mg "abs" =none:=W.mg_none_of X G HW;have je:mg "zip" =none:=W.mg_none_of X G HX;have cI:mg "enumerate" =none:=W.mg_none_of X G oF;have tU:mg "sum" =none:=W.mg_none_of X G HY;obtain⟨l0,L⟩:=Hd.seen_cons L;obtain⟨f0,fd0,a0,oG⟩:=Hd.fun_at l0;obtain⟨l1,L⟩:=Hd.seen_cons L;obtain⟨f1,fd1,a1,pB⟩:=Hd.fun_at l1;obtain⟨l2,L⟩:=Hd.seen_cons L;obtain⟨f2,fd2,a2,m8⟩:=Hd.fun_at l2;obtain⟨l3,L⟩:=Hd.seen_cons L;obtain⟨f3,fd3,a3,pC⟩:=Hd.fun_at l3;obtain⟨l4,L⟩:=Hd.seen_cons L;obtain⟨f4,fd4,a4,zu⟩:=Hd.fun_at l4;obtain⟨l5,L⟩:=Hd.seen_cons L;obtain⟨f5,fd5,a5,tY⟩:=Hd.fun_at l5;obtain⟨l6,L⟩:=Hd.seen_cons L;obtain⟨f6,fd6,a6,qN⟩:=Hd.fun_at l6;obtain⟨l7,L⟩:=Hd.seen_cons L;obtain⟨f7,fd7,a7,tZ⟩:=Hd.fun_at l7;obtain⟨l8,L⟩:=Hd.seen_cons L;obtain⟨f8,fd8,a8,qO⟩:=Hd.fun_at l8;obtain⟨l9,L⟩:=Hd.seen_cons L;obtain⟨f9,fd9,a9,oH⟩:=Hd.fun_at l9;obtain⟨l10,L⟩:=Hd.seen_cons L;obtain⟨f10,abw,a10,qP⟩:=Hd.fun_at l10;obtain⟨l11,L⟩:=Hd.seen_cons L;obtain⟨f11,abx,a11,qQ⟩:=Hd.fun_at l11;obtain⟨l12,L⟩:=Hd.seen_cons L;obtain⟨f12,aby,a12,pD⟩:=Hd.fun_at l12;obtain⟨l13,L⟩:=Hd.seen_cons L;obtain⟨f13,abz,a13,oJ⟩:=Hd.fun_at l13;obtain⟨l14,L⟩:=Hd.seen_cons L;obtain⟨f14,abA,a14,Ia⟩:=Hd.fun_at l14;obtain⟨l15,L⟩:=Hd.seen_cons L;obtain⟨f15,abB,a15,uc⟩:=Hd.fun_at l15;obtain⟨l16,L⟩:=Hd.seen_cons L;obtain⟨f16,abC,a16,lQ⟩:=Hd.fun_at l16;obtain⟨l17,L⟩:=Hd.seen_cons L;obtain⟨f17,abD,a17,zx⟩:=Hd.fun_at l17;obtain⟨l18,L⟩:=Hd.seen_cons L;obtain⟨f18,abE,a18,vG⟩:=Hd.fun_at l18;obtain⟨l19,L⟩:=Hd.seen_cons L;obtain⟨f19,abF,a19,vH⟩:=Hd.fun_at l19;obtain⟨l20,L⟩:=Hd.seen_cons L;obtain⟨f20,abG,a20,ud⟩:=Hd.fun_at l20;obtain⟨l21,L⟩:=Hd.seen_cons L;obtain⟨f21,abH,a21,vI⟩:=Hd.fun_at l21;obtain⟨l22,L⟩:=Hd.seen_cons L;obtain⟨f22,abI,a22,oK⟩:=Hd.fun_at l22;obtain⟨l23,L⟩:=Hd.seen_cons L;obtain⟨f23,abJ,a23,uf⟩:=Hd.fun_at l23;obtain⟨l24,L⟩:=Hd.seen_cons L;obtain⟨f24,abK,a24,jB⟩:=Hd.fun_at l24;obtain⟨l25,L⟩:=Hd.seen_cons L;obtain⟨f25,abL,a25,pF⟩:=Hd.fun_at l25;obtain⟨l26,L⟩:=Hd.seen_cons L;obtain⟨f26,abM,a26,m9⟩:=Hd.fun_at l26;obtain⟨l27,L⟩:=Hd.seen_cons L;obtain⟨f27,abN,a27,lR⟩:=Hd.fun_at l27;obtain⟨l28,L⟩:=Hd.seen_cons L;obtain⟨f28,abO,a28,qR⟩:=Hd.fun_at l28;obtain⟨l29,L⟩:=Hd.seen_cons L;obtain⟨f29,abP,a29,qT⟩:=Hd.fun_at l29;obtain⟨l30,L⟩:=Hd.seen_cons L;obtain⟨f30,abQ,a30,oM⟩:=Hd.fun_at l30;obtain⟨l31,L⟩:=Hd.seen_cons L;obtain⟨f31,Uw,a31,wO⟩:=Hd.fun_at l31;have e:=hfa.symm.trans (W.mg_of X G a31);cases e;refine⟨Uw,Hd.start_binds wO (fun _ _ _ _ _ _ _=>rfl),fun base kb nb=> ?_⟩;have eZ:=zlq (P:=l.prog) (w:=w) (base:=base) c oG (W.mg_of X G a0) bQ iu;have aG:=zoq (P:=l.prog) (w:=w) (base:=base) c pB (W.mg_of X G a1) aV;have fQ:=zks (P:=l.prog) (w:=w) (base:=base) c m8 (W.mg_of X G a2);have cF:=zoa (P:=l.prog) (w:=w) (base:=base) c pC (W.mg_of X G a3) eZ aG fQ bQ aV;have mX:=zz7 (P:=l.prog) (w:=w) (base:=base) c zu (W.mg_of X G a4) tO;have kJ:=zux (P:=l.prog) (w:=w) (base:=base) c tY (W.mg_of X G a5) mX dN cg mz;have dY:=zrb (P:=l.prog) (w:=w) (base:=base) c qN (W.mg_of X G a6);have lD:=zry (P:=l.prog) (w:=w) (base:=base) c tZ (W.mg_of X G a7) kJ dY cg dN;have dZ:=zru (P:=l.prog) (w:=w) (base:=base) c qO (W.mg_of X G a8) kY;have gD:=zlw (P:=l.prog) (w:=w) (base:=base) c oH (W.mg_of X G a9) dZ;have jx:=zrn (P:=l.prog) (w:=w) (base:=base) c qP (W.mg_of X G a10) je;have jy:=zq6 (P:=l.prog) (w:=w) (base:=base) c qQ (W.mg_of X G a11) jx cI;have aY:=znp (P:=l.prog) (w:=w) (base:=base) c pD (W.mg_of X G a12) dZ dW;have gC:=zmr (P:=l.prog) (w:=w) (base:=base) c oJ (W.mg_of X G a13) dN;have tR:=z3h (P:=l.prog) (w:=w) (base:=base) c Ia (W.mg_of X G a14) gC bQ aV fU;have lA:=zut (P:=l.prog) (w:=w) (base:=base) c uc (W.mg_of X G a15) gD jy aY tR bQ aV je cI;have aN:=zi3 (P:=l.prog) (w:=w) (base:=base) c lQ (W.mg_of X G a16);have jz:=z0h (P:=l.prog) (w:=w) (base:=base) c zx (W.mg_of X G a17) aY;have gQ:=zxq (P:=l.prog) (w:=w) (base:=base) c vG (W.mg_of X G a18) jz;have mY:=zxw (P:=l.prog) (w:=w) (base:=base) c vH (W.mg_of X G a19) aN gQ jz aV;have lB:=ztn (P:=l.prog) (w:=w) (base:=base) c ud (W.mg_of X G a20) mY;have mZ:=zxy (P:=l.prog) (w:=w) (base:=base) c vI (W.mg_of X G a21) aY;have gG:=zln (P:=l.prog) (w:=w) (base:=base) c oK (W.mg_of X G a22) aY tU aV;have lC:=zr3 (P:=l.prog) (w:=w) (base:=base) c uf (W.mg_of X G a23) gQ mZ gG aN
 have dB:=zgm (P:=l.prog) (w:=w) (base:=base) c jB (W.mg_of X G a24) lA lB lC aN aV;have bK:=zo5 (P:=l.prog) (w:=w) (base:=base) c pF (W.mg_of X G a25) lD dB dY dN je;have fV:=zla (P:=l.prog) (w:=w) (base:=base) c m9 (W.mg_of X G a26) cg mz;have fG:=zi4 (P:=l.prog) (w:=w) (base:=base) c lR (W.mg_of X G a27) kY;have jA:=zre (P:=l.prog) (w:=w) (base:=base) c qR (W.mg_of X G a28) fG;have dD:=zq2 (P:=l.prog) (w:=w) (base:=base) c qT (W.mg_of X G a29) fV jA aV iu;have bT:=zm3 (P:=l.prog) (w:=w) (base:=base) c oM (W.mg_of X G a30) iu;exact zy1 (P:=l.prog) (w:=w) (base:=base) c wO cF bK dD aG bT aV
abbrev pg:Program:=PySem.Challenge.pw_hall_k34_one_hand_higher
abbrev lw:W.OpenLaw:=PySem.Challenge.rw_hall_k34_one_hand_higher
abbrev vw:Program:=W.view pg [41]
def loose:List Str:=pg.boundNames.filter fun x=>x != "law"
theorem hd_e:W.opening pg=W.plainProg pg.main.scope.names:=by kernel_rfl
theorem hd_f(s:Shared):PySem.fenceModules? pg s=some s:=by kernel_rfl
theorem hd_A(w:World)(os:OsState):W.topGo treeTable pg w 11 Hd.ann 12 (Hd.S0 w os) (W.topStub pg)=some (Hd.fore treeTable W.topGo pg w os,⟨denote treeTable (Hd.cB pg),Hd.cB pg,Hd.z,[W.topFrame Hd.z]⟩):=by
 rw[PySem.W.Fast.te15667345088766844465,PySem.W.Fast.te11892475500146522536,PySem.W.Fast.te14364793385576792824];kernel_rfl
theorem hd_B(w:World)(os:OsState):W.segRun treeTable pg w 11 Hd.ann 1 1 (Hd.fore treeTable W.topGo pg w os) (W.blockOf (W.behindTheImports pg) (Hd.env pg) (Hd.cB pg) Hd.z [W.topFrame Hd.z])=some (.next,Hd.fore treeTable W.topGo pg w os,Hd.cB pg,Hd.z):=by
 rw[PySem.W.Fast.te15667345088766844465,PySem.W.Fast.te14374325043358763698,PySem.W.Fast.te14364793385576792824];kernel_rfl
theorem hd_C(w:World)(os:OsState):(Hd.Ta (Hd.fore treeTable W.topGo pg w os)).abs=Hd.fore treeTable W.topGo pg w os:=by
 rw[PySem.W.Fast.te15667345088766844465,PySem.W.Fast.te14364793385576792824];kernel_rfl
theorem hd_D(w:World)(os:OsState):Hd.shot treeTable W.topGo W.segRunT W.topRun execs pg (Hd.rest W.openSeen pg vw loose (fun _=>true) obs 1500 w) w os=some ((.next,Hd.cB pg),(true,W.openGood vw loose,good)):=by
 rw[PySem.W.Fast.te15667345088766844465,PySem.W.Fast.te10110043849684766642,PySem.W.Fast.te14082659384304107361,PySem.W.Fast.te12563942051412417395,PySem.W.Fast.te4187177175401517315,PySem.W.Fast.te14364793385576792824];kernel_rfl
theorem hd_said:lw.wellSaid=true:=by kernel_rfl
theorem hd_ok:(W.chainsOk vw&&W.opensWell lw.row.prog&&(W.frees lw.row.toRowW&&lw.row.within.isEmpty))=true:=by kernel_rfl
theorem hd_bare:lw.row.prog.bare:=⟨rfl,rfl,rfl,rfl,rfl,by decide+kernel⟩
theorem hd_wit:lw.row.toRowW.promised:=by w_witness2
theorem hd_d:W.defOf vw lw.row.name=some (Hd.recOf oE,[]):=by kernel_rfl
theorem hd_p:lw.row.prog.theDef lw.row.name=some ((Hd.recOf oE).params,(Hd.recOf oE).body,(Hd.recOf oE).scope):=by kernel_rfl
theorem hd_k:W.kwWritten? (Hd.recOf oE).params.kwonlyargs (Hd.recOf oE).params.kw_defaults=some []:=by kernel_rfl
theorem hd_n:(Hd.recOf oE).name= "law" :=by kernel_rfl
theorem hd_z:(Hd.recOf oE).params.defaults= []:=by kernel_rfl
theorem hd_w:W.WalkO vw loose (fun _ _=>True) (fun _ h=>∃K:W.Frag,K.In h/\obs K=good) lw.row.toRowW (Hd.recOf oE) [] (fun f vs=>PySem.call f vs):=
 Hd.walk_ex (n:=63) (k:=9) (x:= "_law_script") (CX:=fun w=>gO lw.prog w) (sp:=fun K=>jO K Je) (Fx:=fun K=>obs K=good) rfl (by decide) hd_z ⟨rfl,by decide,by decide⟩ (fun _ _ h=>h) (fun w K mg fa h O X G hm=>z2j O X G (hd_n ▸ hm)) (fun K H a ns hl hO hS=>zs2 hl hS) fun _ _ _ _ _ z=>zxb z
end Lw
theorem PySem.Challenge.cw_hall_k34_one_hand_higher_holds : PySem.Challenge.rw_hall_k34_one_hand_higher.Holds :=
 Hd.holds Lw.hd_said (Hd.left Lw.hd_e Lw.hd_f Lw.hd_A Lw.hd_B Lw.hd_C Lw.hd_D) Lw.hd_d Lw.hd_p Lw.hd_k Lw.hd_ok Lw.hd_bare Lw.hd_wit rfl Lw.hd_w
#print axioms PySem.Challenge.cw_hall_k34_one_hand_higher_holds
