import PyProof.Rows.All
import Wide.All
import OpenK.AllK
import Wide.FinOn
import Lean
import PyProof.EqAt
import PyProof.EqKinds
import PyProof.TupleCall
import PyProof.NeKinds
import PySem.Challenge.RW_hall_k35_whole_none_fits_better
set_option Elab.async false
set_option linter.all false
set_option maxRecDepth 100000
set_option maxHeartbeats 4000000
abbrev bH:=PySem.Value ->PySem.Shared ->Prop
abbrev bA:=List (PySem.Addr×PySem.Obj)
section
open PySem PySem.Spec PyProof.Rows
abbrev z6:=@wpAny_bind
abbrev z7:=@wpAny_pure
abbrev z8:=@Heap.get?_push_of_some
abbrev z9:=@Heap.get?_push_size
abbrev zZ:=@List.getElem?_eq_getElem
abbrev zY:=@List.mem_cons_self
abbrev zX:=@List.mem_cons_of_mem
abbrev zW:=@List.getElem?_eq_some_iff
abbrev zV:=@List.mem_cons
abbrev zU:=@List.mem_append
abbrev zT:=@List.mem_singleton
abbrev zR:=@List.mem_append_right
abbrev zQ:=@List.mem_append_left
abbrev zP:=@Nat.le_trans
abbrev zO:=@Nat.le_refl
abbrev zN:=@Nat.lt_of_lt_of_le
abbrev zM:=@Nat.lt_of_le_of_lt
abbrev zL:=@Nat.ne_of_lt
abbrev zK:=@Bool.false_ne_true
abbrev zJ:=@Heap.lt_size
abbrev zH:=@Option.some.inj
abbrev zG:=@Option.map_eq_some_iff
abbrev zF:=@List.mem_map
abbrev zE:=@List.mem_filter
abbrev zB:=@Heap.get?_push_ne
abbrev zA:=@List.mem_of_getElem?
abbrev yZ:=@List.getElem_mem
abbrev yX:=@Nat.lt_irrefl
end
namespace L2
open PySem PySem.Spec PyProof.Rows
abbrev Key:=Sum Int Str
def lX:Key ->Value ->Bool
 | .inl k,v=>Value.isInt k v
 | .inr x,v=>Value.isStrOf x v
def Lj(w:World):Key ->Int
 | .inl k=>hashInt k
 | .inr x=>hashStr w x
theorem qu:∀{k:Key} {v:Value},lX k v=true ->(∃i t,k=Sum.inl i/\v=Value.int i t)\/ (∃x t,k=Sum.inr x/\v=Value.str x t)
 | .inl i,v,h=>by
  obtain⟨t,e⟩:=Value.isInt_shape (k:=i) (v:=v) h;exact .inl ⟨i,t,rfl,e⟩
 | .inr x,v,h=>by
  obtain⟨t,e⟩:=Value.isStrOf_shape (x:=x) (v:=v) h;exact .inr ⟨x,t,rfl,e⟩
theorem zu7(i:Int)(t:Tok):lX (.inl i) (.int i t)=true:=by simp [lX,Value.isInt]
theorem zuj(x:Str)(t:Tok):lX (.inr x) (.str x t)=true:=by simp [lX,Value.isStrOf]
theorem z22(a b:Int):decide ((Sum.inl a:Key)=Sum.inl b)=(a==b):=by
 by_cases e:a=b
 ·subst e;simp
 ·have h:¬(Sum.inl a:Key)=Sum.inl b:=fun q=>e (Sum.inl.inj q);rw[decide_eq_false h];exact(beq_eq_false_iff_ne.mpr e).symm
theorem z3s(a b:Str):decide ((Sum.inr a:Key)=Sum.inr b)=decide (a=b):=by
 by_cases e:a=b
 ·subst e;simp
 ·have h:¬(Sum.inr a:Key)=Sum.inr b:=fun q=>e (Sum.inr.inj q);rw[decide_eq_false h,decide_eq_false e]
theorem z37(a:Int)(b:Str):decide ((Sum.inl a:Key)=Sum.inr b)=false:=decide_eq_false (fun q=>nomatch q)
theorem z3x(a:Str)(b:Int):decide ((Sum.inr a:Key)=Sum.inl b)=false:=decide_eq_false (fun q=>nomatch q)
def iB(prog:Program)(w:World):PySem.KeyKind prog w Key where
 is:=lX
 hash:=Lj w
 inj:=fun v a b ha hb=>by
  rcases qu ha with ⟨i,t,rfl,rfl⟩ | ⟨x,t,rfl,rfl⟩
  ·rcases qu hb with ⟨j,u,rfl,e⟩ | ⟨y,u,rfl,e⟩
   ·injection e with e1 _;rw[e1]
   ·exact nomatch e
  ·rcases qu hb with ⟨j,u,rfl,e⟩ | ⟨y,u,rfl,e⟩
   ·exact nomatch e
   ·injection e with e1 _;rw[e1]
 byValue:=fun k v h=>by
  rcases qu h with ⟨i,t,rfl,rfl⟩ | ⟨x,t,rfl,rfl⟩<;>rfl
 pyHash:=fun hv h=>by
  rcases qu hv with ⟨i,t,rfl,rfl⟩ | ⟨x,t,rfl,rfl⟩
  ·exact wpAny_pyHash_int h
  ·exact wpAny_pyHash_str h
 eqBool:=fun hu hv h=>by
  rcases qu hu with ⟨i,t,rfl,rfl⟩ | ⟨x,t,rfl,rfl⟩
  ·rcases qu hv with ⟨j,u,rfl,rfl⟩ | ⟨y,u,rfl,rfl⟩
   ·rw[z22] at h;exact wpAny_eqBool_int h
   ·rw[z37] at h;exact SeqAt.EqAt.int_str i t y u _ _ _ _ h
  ·rcases qu hv with ⟨j,u,rfl,rfl⟩ | ⟨y,u,rfl,rfl⟩
   ·rw[z3x] at h;exact SeqAt.EqAt.str_int x t j u _ _ _ _ h
   ·rw[z3s] at h;exact wpAny_eqBool_str h
 «strs»:=fun k x t v h=>by
  rcases qu h with ⟨i,u,rfl,e⟩ | ⟨y,u,rfl,e⟩
  ·exact nomatch e
  ·injection e with e1 _;subst e1;cases v<;>rfl
theorem zol(prog:Program)(w:World)(i:Int)(t:Tok):(iB prog w).is (.inl i) (.int i t)=true:=zu7 i t
theorem Vo(prog:Program)(w:World)(x:Str)(t:Tok):(iB prog w).is (.inr x) (.str x t)=true:=zuj x t
inductive V where
 | non | bl (b:Bool) | int (i:Int) | str (x:Str) | wZ (b:Array UInt8) | flt (b:UInt64) | ref (a:Addr) | ty (n:String)
 deriving DecidableEq
def RelV:V ->Value ->Prop
 | .non,u=>u=Value.none
 | .bl b,u=>u=Value.bool b
 | .int i,u=>∃t,u=Value.int i t
 | .str x,u=>∃t,u=Value.str x t
 | .wZ b,u=>∃t,u=Value.bytes b t
 | .flt b,u=>∃t,u=Value.float b t
 | .ref a,u=>u=Value.ref a
 | .ty n,u=>u=Value.type n
abbrev Vals:List V ->List Value ->Prop:=Paired RelV
theorem Vals.length{xs:List V}{us:List Value}(r:Vals xs us):xs.length=us.length:=Paired.length r
theorem Vals.get:∀{xs:List V} {us:List Value} {i:Nat} {x:V},Vals xs us ->xs[i]?=some x ->∃u,us[i]?=some u/\RelV x u
 | _,_,_,_,.nil,e=>by simp at e
 | _,_,0,_,.cons r _,e=>by simp at e;subst e;exact⟨_,rfl,r⟩
 | _,_,i+1,x,.cons _ t,e=>by
  obtain⟨u,h1,h2⟩:=Vals.get (i:=i) (x:=x) t (by simpa using e)
  exact⟨u,by simpa using h1,h2⟩
theorem Vals.set{x:V}{u:Value}(r:RelV x u):∀{xs:List V} {us:List Value} (i:Nat),Vals xs us ->Vals (xs.set i x) (us.set i u)
 | _,_,_,.nil=> .nil
 | _,_,0,.cons _ t=> .cons r t
 | _,_,i+1,.cons q t=> .cons q (Vals.set r i t)
theorem Vals.append:∀{xs ys:List V} {us ws:List Value},Vals xs us ->Vals ys ws ->Vals (xs++ys) (us++ws)
 | _,_,_,_,.nil,s=>s
 | _,_,_,_,.cons r t,s=> .cons r (Vals.append t s)
theorem Vals.take:∀{xs:List V} {us:List Value} (n:Nat),Vals xs us ->Vals (xs.take n) (us.take n)
 | _,_,0,_=> .nil
 | _,_,_+1,.nil=> .nil
 | _,_,n+1,.cons r t=> .cons r (Vals.take n t)
theorem Vals.drop:∀{xs:List V} {us:List Value} (n:Nat),Vals xs us ->Vals (xs.drop n) (us.drop n)
 | _,_,0,r=>r
 | _,_,_+1,.nil=> .nil
 | _,_,n+1,.cons _ t=>Vals.drop n t
def jk:Option V ->Option Value ->Prop
 | some v,some u=>RelV v u
 | none,none=>True
 | _,_=>False
def KV{κ:Type}:List (κ×V) ->List (κ×Value) ->Prop:=Paired fun(p:κ×V) (q:κ×Value)=>p.1=q.1/\RelV p.2 q.2
def kV:Key ->V
 | .inl i=> .int i
 | .inr x=> .str x
inductive HO where
 | lst (xs:List V)
 | tup (xs:List V)
 | dK (kvs:List (Key×V)) | dT (kvs:List (List Key×V))
 | set (S:Int ->Bool) (n:Nat)
 | ins (C dx:Addr) (fs:List (Str×V))
 | own (x:Addr)
 | xd (fs:List (Str×V))
 | met (f x:Addr)
 | rng (lo hi:Int)
 | frz (o:Obj) (u:HO)
 | vO (ps:Array Value)
 | ext (φ:Heap ->Prop)
abbrev Hp:=Addr ->Option HO
def upd(H:Hp)(a:Addr)(o:HO):Hp:=fun b=>if b=a then some o else H b
theorem jL{H:Hp}{a:Addr}{o:HO}:upd H a o a=some o:=by unfold upd;rw[if_pos rfl]
theorem cQ{H:Hp}{a b:Addr}{o:HO}(h:b≠a):upd H a o b=H b:=by unfold upd;rw[if_neg h]
theorem z5n{H:Hp}{a b:Addr}{o u:HO}(h:H a=some o)(h' :H b=some u)(d:o≠u):a≠b:=by
 intro e;subst e;rw[h] at h';exact d (zH h')
theorem jV{H:Hp}{a b:Addr}{o:HO}(h:H a=some o)(h' :H b=none):a≠b:=by
 intro e;subst e;rw[h] at h';cases h'
section
variable(P:Program)(w:World)
def bw(H:Hp)(h:Heap)(a:Addr):HO ->Prop
 | .lst xs=>xs.length<=sizeLine/\∃(its:List Value) (n:Nat),Vals xs its/\h.get? a=some {cls:= .type "list",data:= .seq its.toArray n}
 | .tup xs=>xs.length<=sizeLine/\∃its:List Value,Vals xs its/\IsTup h a its.toArray
 | .dK kvs=>kvs.length<=sizeLine/\ (a==sysModules)=false/\∃vs,KV kvs vs/\h.DictOf (iB P w) a vs
 | .dT kvs=>kvs.length<=sizeLine/\ (a==sysModules)=false/\∃xs:List (List Key×Addr×Value),
   Paired (fun(p:List Key×V) (q:List Key×Addr×Value)=>p.1=q.1/\H q.2.1=some (.tup (p.1.map kV))/\RelV p.2 q.2.2) kvs xs/\
   ∃o es ep,h.get? a=some o/\o.ExactDict/\o.data= .dict es ep/\es.toList=xs.map (entryOfKey (tupleKind (iB P w)))/\ (xs.map (·.1)).Nodup
 | .set S n=>h.SetOf (intKind P w) a S n
 | .ins C dx fs=>H dx=some (.own a)/\fs.length<=1000/\dx≠a/\h.get? a=some (W.instObj C dx)/\
   ∃mA,h.Ns1 dx mA/\ (∀f,jk (fs.lookup f) (mA f))/\PySem.Within mA (fs.map (·.1))
 | .own _=>∃o,h.get? a=some o
 | .xd fs=>∃mA,h.Ns1 a mA/\∀f,jk (fs.lookup f) (mA f)
 | .rng lo hi=>∃t u v,h.get? a=some {cls:= .type "range",data:= .fields #[.int lo t,.int hi u,.int 1 v]}
 | .frz o u=>h.get? a=some o/\bw H h a u
 | .vO ps=>h.get? a=some {cls:= .none,data:= .fields ps}
 | .met f x=>h.get? a=some (W.methodObj (.ref f) (.ref x))
 | .ext φ=>φ h/\ (∃o,h.get? a=some o)/\∀h1 h2:Heap,φ h1 ->(∀o,h1.get? a=some o ->h2.get? a=some o) ->φ h2
def gP(H:Hp)(h:Heap):Prop:=∀a o,H a=some o ->bw P w H h a o
end
section
variable{P:Program}{w:World}{H H' :Hp}{h h' :Heap}{a:Addr}{o:HO}
theorem bw.lt(x:bw P w H h a o):a<h.objs.size:=by
 cases o with
 | lst xs=>obtain⟨_,_,_,_,e⟩:=x;exact zJ e
 | tup xs=>obtain⟨_,_,_,p⟩:=x;exact p.lt
 | dK kvs=>obtain⟨_,_,_,_,o,_,_,e,_⟩:=x;exact zJ e
 | dT kvs=>obtain⟨_,_,_,_,o,_,_,e,_⟩:=x;exact zJ e
 | set S n=>obtain⟨o,_,_,_,e,_⟩:=x;exact zJ e
 | ins C dx fs=>obtain⟨_,_,_,e,_⟩:=x;exact zJ e
 | own y=>obtain⟨_,e⟩:=x;exact zJ e
 | xd fs=>obtain⟨_,⟨_,_,_,e,_⟩,_⟩:=x;exact zJ e
 | rng lo hi=>obtain⟨_,_,_,e⟩:=x;exact zJ e
 | frz ob u=>obtain⟨e,_⟩:=x;exact zJ e
 | vO ps=>exact zJ (show h.get? a=some _ from x)
 | met f y=>exact zJ (show h.get? a=some _ from x)
 | ext φ=>obtain⟨_,⟨_,e⟩,_⟩:=x;exact zJ e
theorem Paired.mapP{α β:Type}{F G:α ->β ->Prop}:∀{l₁:List α} {l₂:List β},Paired F l₁ l₂ ->(∀a b,F a b ->G a b) ->Paired G l₁ l₂
 | _,_,.nil,_=> .nil
 | _,_,.cons r t,f=> .cons (f _ _ r) (Paired.mapP t f)
theorem bw.stay(x:bw P w H h a o)(k:∀b u,(b=a\/H b=some (.own a)) ->h.get? b=some u ->h'.get? b=some u)
  (ho:∀b,H b=some (.own a) ->H' b=some (.own a)) (ht:∀b xs,H b=some (.tup xs) ->H' b=some (.tup xs)):bw P w H' h' a o:=by
 induction o with
 | lst xs=>obtain⟨z,its,n,r,e⟩:=x;exact⟨z,its,n,r,k _ _ (.inl rfl) e⟩
 | tup xs=>obtain⟨z,its,r,ob,e,c⟩:=x;exact⟨z,its,r,ob,k _ _ (.inl rfl) e,c⟩
 | dK kvs=>obtain⟨z,y,vs,r,ob,es,ep,e,c⟩:=x;exact⟨z,y,vs,r,ob,es,ep,k _ _ (.inl rfl) e,c⟩
 | dT kvs=>
  obtain⟨z,y,xs,r,ob,es,ep,e,c⟩:=x;exact⟨z,y,xs,Paired.mapP r fun p q z=>⟨z.1,ht _ _ z.2.1,z.2.2⟩,ob,es,ep,k _ _ (.inl rfl) e,c⟩
 | set S n=>obtain⟨ob,es,ep,t,e,c⟩:=x;exact⟨ob,es,ep,t,k _ _ (.inl rfl) e,c⟩
 | ins C dx fs=>
  obtain⟨d,z,ne,e,mA,⟨od,es,ep,e2,c⟩,r⟩:=x;exact⟨ho _ d,z,ne,k _ _ (.inl rfl) e,mA,⟨od,es,ep,k _ _ (.inr d) e2,c⟩,r⟩
 | own y=>obtain⟨ob,e⟩:=x;exact⟨ob,k _ _ (.inl rfl) e⟩
 | xd fs=>obtain⟨mA,⟨od,es,ep,e,c⟩,r⟩:=x;exact⟨mA,⟨od,es,ep,k _ _ (.inl rfl) e,c⟩,r⟩
 | rng lo hi=>obtain⟨t,u,v,e⟩:=x;exact⟨t,u,v,k _ _ (.inl rfl) e⟩
 | frz ob u ih=>obtain⟨e,q⟩:=x;exact⟨k _ _ (.inl rfl) e,ih q⟩
 | vO ps=>
  have e:h.get? a=some {cls:= .none,data:= .fields ps}:=x;show h'.get? a=some {cls:= .none,data:= .fields ps};exact k a _ (.inl rfl) e
 | met f y=>
  have e:h.get? a=some (W.methodObj (.ref f) (.ref y)):=x;show h'.get? a=some (W.methodObj (.ref f) (.ref y));exact k a _ (.inl rfl) e
 | ext φ=>obtain⟨p,⟨o,e⟩,st⟩:=x;exact⟨st _ _ p fun o q=>k _ _ (.inl rfl) q,⟨o,k _ _ (.inl rfl) e⟩,st⟩
theorem gP.lt(x:gP P w H h)(e:H a=some o):a<h.objs.size:=(x a o e).lt
theorem gP.fresh(x:gP P w H h)(e:h.objs.size<=a):H a=none:=by
 cases q:H a with
 | none=>rfl
 | some u=>exact absurd (zN (x.lt q) e) (yX _)
theorem gP.kept(x:gP P w H h)(k:∀b u,h.get? b=some u ->h'.get? b=some u):gP P w H h' :=fun a o e=>
 (x a o e).stay (fun b u _ q=>k b u q) (fun _ q=>q) fun _ _ q=>q
theorem gP.laid(x:gP P w H h)(k:∀b u,h.get? b=some u ->h'.get? b=some u)(hp:h.objs.size<=a)(new:bw P w (upd H a o) h' a o):gP P w (upd H a o) h' :=fun b u e=>by
 have hn:=x.fresh hp;by_cases hb:b=a
 ·subst hb;rw[jL] at e;cases e;exact new
 ·rw[cQ hb] at e;exact(x b u e).stay (fun c v _ q=>k c v q) (fun c q=>by rw[cQ (jV q hn)];exact q) fun c xs q=>by rw[cQ (jV q hn)];exact q
end
def Rd(H:Hp)(a:Addr)(u:HO):Prop:=H a=some u\/∃o,H a=some (.frz o u)
theorem Rd.ok{P:Program}{w:World}{H:Hp}{h:Heap}{a:Addr}{u:HO}(r:Rd H a u)(x:gP P w H h):bw P w H h a u:=by
 rcases r with r | ⟨o,r⟩
 ·exact x a u r
 ·obtain⟨_,q⟩:=x a _ r;exact q
def Cw:Option HO ->Prop
 | some (.lst _)=>True
 | some (.dK _)=>True
 | some (.dT _)=>True
 | some (.set _ _)=>True
 | some (.ins _ _ _)=>True
 | some (.ext _)=>True
 | _=>False
section
variable{P:Program}{w:World}{H:Hp}{h h' :Heap}{x e:Addr}{o' :HO}
theorem gP.write(ok:gP P w H h)(mu:Cw (H x))(he:e=x\/H e=some (.own x))(k:∀b u,b≠e ->h.get? b=some u ->h'.get? b=some u)(heo:∃u,h'.get? e=some u)
  (new:bw P w (upd H x o') h' x o'):gP P w (upd H x o') h' :=fun b u q=>by
 have Cy:∀c y,H c=some (.own y) ->c≠x:=fun c y r z=>by subst z;rw[r] at mu;exact mu
 have Lk:∀c xs,H c=some (.tup xs) ->c≠x:=fun c xs r z=>by subst z;rw[r] at mu;exact mu
 by_cases hb:b=x
 ·subst hb;rw[jL] at q;cases q;exact new
 ·rw[cQ hb] at q;by_cases hbe:b=e
  ·have q' :H b=some (.own x):=by
    rcases he with z | z
    ·exact absurd (hbe.trans z) hb
    ·rw[hbe];exact z
   rw[q] at q';cases q';obtain⟨v,hv⟩:=heo;exact⟨v,by rw[hbe];exact hv⟩
  ·refine(ok b u q).stay (fun c v hc r=>k c v ?_ r) (fun c r=>by rw[cQ (Cy c b r)];exact r) fun c xs r=>by rw[cQ (Lk c xs r)];exact r
   rcases hc with rfl | hc
   ·exact hbe
   ·rintro rfl;rcases he with z | z
    ·exact Cy c b hc z
    ·rw[hc] at z;cases z;exact hb rfl
end
structure Un (fs ex:List Addr) (H H' :Hp) (h h' :Heap):Prop where
 keep:∀b o,h.get? b=some o ->H b=none ->b∉fs ->b∉ex ->h'.get? b=some o
 slot:∀b o,h.get? b=some o ->H b=none ->b∈fs ->b∉ex ->∃sl,h'.get? b=some {o with slots:=sl}
 free:∀b o,h.get? b=some o ->H b=none ->b∉ex ->H' b=none
 there:∀b o,h.get? b=some o ->b∉ex ->∃o',h'.get? b=some o'
 tups:∀b xs,H b=some (.tup xs) ->H' b=some (.tup xs)
 lO:∀b o u,H b=some (.frz o u) ->H' b=some (.frz o u)
 mQ:∀b ps,H b=some (.vO ps) ->∃more,H' b=some (.vO (ps++more))
section
variable{fs fs' ex ex' :List Addr}{H H1 H2:Hp}{h h1 h2 h' :Heap}{a x e:Addr}{o:HO}
theorem Un.any(u:Un fs ex H H1 h h1){b:Addr}{ob:Obj}(q:h.get? b=some ob)(n:H b=none)(hx:b∉ex):∃sl,h1.get? b=some {ob with slots:=sl}:=by
 by_cases hb:b∈fs
 ·exact u.slot b ob q n hb hx
 ·exact⟨ob.slots,u.keep b ob q n hb hx⟩
theorem Un.kept(k:∀b u,h.get? b=some u ->h'.get? b=some u):Un fs ex H H h h' :=
 ⟨fun b ob q _ _ _=>k b ob q,fun b ob q _ _ _=>⟨ob.slots,k b ob q⟩,fun _ _ _ n _=>n,fun b ob q _=>⟨ob,k b ob q⟩,fun _ _ q=>q,fun _ _ _ q=>q,fun _ ps q=>⟨#[],by rw[q];simp⟩⟩
theorem Un.refl:Un fs ex H H h h:=Un.kept fun _ _ q=>q
theorem Un.laid(k:∀b u,h.get? b=some u ->h'.get? b=some u)(hp:h.objs.size<=a)(hn:H a=none):Un fs ex H (upd H a o) h h' where
 keep:=fun b u q _ _ _=>k b u q
 slot:=fun b u q _ _ _=>⟨u.slots,k b u q⟩
 free:=fun b u q n _=>by rw[cQ (Nat.ne_of_lt (Nat.lt_of_lt_of_le (Heap.lt_size q) hp))];exact n
 there:=fun b u q _=>⟨u,k b u q⟩
 tups:=fun b xs q=>by rw[cQ (jV q hn)];exact q
 lO:=fun b u xs q=>by rw[cQ (jV q hn)];exact q
 mQ:=fun b ps q=>⟨#[],by rw[cQ (jV q hn),q];simp⟩
theorem Un.write(mu:Cw (H x))(he:e=x\/H e=some (.own x))(k:∀b u,b≠e ->h.get? b=some u ->h'.get? b=some u)(heo:∃u,h'.get? e=some u):Un fs ex H (upd H x o) h h' :=by
 have hx:∀b,H b=none ->b≠x:=fun b n z=>by subst z;rw[n] at mu;exact mu
 have hb:∀b,H b=none ->b≠e:=fun b n z=>by
  subst z;rcases he with r | r
  ·exact hx b n r
  ·rw[n] at r;cases r
 have hm:∀b u,H b=some u ->¬Cw (some u) ->b≠x:=fun b u q nm z=>by subst z;rw[q] at mu;exact nm mu
 refine⟨fun b u q n _ _=>k b u (hb b n) q,fun b u q n _ _=>⟨u.slots,k b u (hb b n) q⟩,fun b u q n _=>by rw[cQ (hx b n)];exact n,fun b u q _=> ?_,
  fun b xs q=>by rw[cQ (hm b _ q fun z=>z)];exact q,fun b u xs q=>by rw[cQ (hm b _ q fun z=>z)];exact q,fun b ps q=>⟨#[],by rw[cQ (hm b _ q fun z=>z),q];simp⟩⟩
 by_cases hbe:b=e
 ·subst hbe;exact heo
 ·exact⟨u,k b u hbe q⟩
end
def ud(h:Heap)(H:Hp):List Addr:=(List.range h.objs.size).filter fun a=>(H a).isSome
def mR(h:Heap)(H:Hp):Heap:=W.hideAll h (ud h H)
theorem zr1(h:Heap)(H:Hp):(mR h H).objs.size=h.objs.size:=W.hideAll_size _ _
theorem zyv{h:Heap}{H:Hp}{b:Addr}{o:Obj}(e:h.get? b=some o)(n:H b=none):(mR h H).get? b=some o:=
 W.hideAll_get _ e fun hm=>by
  have q:(H b).isSome=true:=(zE.mp hm).2;rw[n] at q;simp at q
theorem z0c{h:Heap}{H:Hp}{b:Addr}{o:Obj}(e:(mR h H).get? b=some o):h.get? b=some o/\H b=none:=by
 have e' :h.get? b=some o:=W.of_hideAll (ud h H) e;refine⟨e',?_⟩;cases q:H b with
 | none=>rfl
 | some x=>
  have hm:b∈ud h H:=zE.mpr ⟨List.mem_range.mpr (zJ e'),by simp [q]⟩
  have z:(mR h H).get? b=none:=W.hideAll_none (ud h H) hm;rw[z] at e;cases e
def z0o(g h:Heap)(L:Addr):bA:=(List.range h.objs.size).filterMap fun a=>if a=L\/ (g.get? a).isSome=true then none else(h.get? a).map fun o=>(a,o)
def rest(g h:Heap)(L d:Addr):bA:=(z0o g h L).filter fun p=>decide (p.1≠d)
structure Mod (K:W.Frag) (mg:Str ->Option Value) (base:Heap):Prop where
 Cz:K.In base
 glob:base.Ns mainGlobals mg
 blt:∃mb,base.Ns builtinsNs mb/\∀x:Str,x≠ "__name__" ->mb x=bootBuiltins x
 nolimit:base.NoLimit
structure Cx where
 prog:Program
 w:World
 K:W.Frag
 mg:Str ->Option Value
 base:Heap
 A:Around
 N:List Str
 s₀:Shared
 H₀:Hp
 env:Env
 outer:List Env
 stack:List Env
 ex:List Addr
 fn:Str ->Bool
 calm:Bool
 pn:bA
 xe:bH
def frs(l:List Env):List Addr:=l.filterMap (·.frame)
abbrev Cx.fs(X:Cx):List Addr:=frs X.outer
def mU(sc:Scope)(x:Str):Prop:=sc.names.lookup x=some .local\/sc.names.lookup x=some .cell\/sc.names.lookup x=some .free
def Loc(sc:Scope)(x:Str):Prop:=sc.names.lookup x=some .local\/sc.names.lookup x=some .cell
def Look(env:Env)(h:Heap)(m:Str ->Option Value)(x:Str)(u:Value):Prop:=
 (env.kindOf x=some .local/\m x=some u)\/ ((env.kindOf x=some .cell\/env.kindOf x=some .free)/\∃c,env.cells.lookup x=some c/\h.IsCell c (some u))
structure Cx.Ok (X:Cx):Prop where
 mod:Mod X.K X.mg X.base
 kind:X.env.scope.kind= .function
 glob:X.env.globals=mainGlobals
 blt:X.env.builtins=builtinsNs
 above:X.s₀.heap.objs.size<=X.env.locals
 inj:∀x y c,X.env.cells.lookup x=some c ->X.env.cells.lookup y=some c ->x=y
 has:∀x,(X.env.kindOf x=some .cell\/X.env.kindOf x=some .free) ->∃c,X.env.cells.lookup x=some c
 cab:∀x c,X.fn x=true ->X.env.cells.lookup x=some c ->X.s₀.heap.objs.size<=c
 hd:X.calm=true ->X.A.handled=none
 frames:X.A.frames=some X.stack
 stk:X.stack=X.outer\/ (X.stack=X.env::X.outer/\X.env.frame=some X.env.locals)
 Vp:∀b∈X.ex,b≠X.env.locals/\∀x c,X.env.cells.lookup x=some c ->c≠b
 bs:∀b o,X.base.get? b=some o ->X.s₀.heap.get? b=some o/\X.H₀ b=none
 Af:X.base.objs.size<=X.s₀.heap.objs.size
 w6:∀b o,X.base.get? b=some o ->b∉X.ex
 xq:∀b∈X.ex,b∉X.fs
 funs:X.s₀.heap.FunFrames X.base X.outer
 CG:∀b∈X.fs,X.H₀ b=none
structure Inv (X:Cx) (pins:bA) (σ:List (Option V)) (H:Hp) (s:Shared):Prop where
 ok:X.Ok
 os:s.os=X.s₀.os
 bare:AllBare s.gens
 base:Un X.fs X.ex X.H₀ H X.s₀.heap s.heap
 loc:∃m,s.heap.Ns X.env.locals m/\∀(i:Nat) (x:Str) (v:V),X.N[i]?=some x ->σ[i]?=some (some v) ->mU X.env.scope x ->∃u,RelV v u/\Look X.env s.heap m x u
 cell:∀x c,X.env.cells.lookup x=some c ->∃v,s.heap.IsCell c v
 free:H X.env.locals=none
 freeC:∀x c,X.env.cells.lookup x=some c ->H c=none
 pin:∀p∈X.pn++pins,s.heap.get? p.1=some p.2/\H p.1=none/\p.1≠X.env.locals/\p.1∉X.fs/\∀v,p.2.data≠ .cell v
 hok:gP X.prog X.w H s.heap
 len:σ.length=X.N.length
section
variable{X:Cx}{pins:bA}{σ:List (Option V)}{H H' :Hp}{s:Shared}{h' :Heap}
theorem Cx.Ok.nofr(ok:X.Ok){b:Addr}{o:Obj}(e:X.base.get? b=some o):b∉X.fs:=fun hb=>by
 have:=(ok.funs.mem hb).1;rw[e] at this;cases this
theorem Inv.bs(I:Inv X pins σ H s):∀b o,X.base.get? b=some o ->s.heap.get? b=some o/\H b=none:=fun b o e=>
 ⟨I.base.keep b o (I.ok.bs b o e).1 (I.ok.bs b o e).2 (I.ok.nofr e) (I.ok.w6 b o e),I.base.free b o (I.ok.bs b o e).1 (I.ok.bs b o e).2 (I.ok.w6 b o e)⟩
theorem Inv.bk(I:Inv X pins σ H s):∀b o,X.base.get? b=some o ->s.heap.get? b=some o:=fun b o e=>(I.bs b o e).1
theorem Inv.mod(I:Inv X pins σ H s):Mod X.K X.mg X.base:=I.ok.mod
theorem Inv.kIn(I:Inv X pins σ H s):X.K.In s.heap:=I.ok.mod.Cz.keeps I.bk
theorem Inv.lt(I:Inv X pins σ H s):X.env.locals<s.heap.objs.size:=let ⟨_,hn,_⟩:=I.loc;hn.lt
theorem Inv.sz(I:Inv X pins σ H s):X.s₀.heap.objs.size<=s.heap.objs.size:=zP I.ok.above (Nat.le_of_lt I.lt)
theorem Inv.nofs(I:Inv X pins σ H s){a:Addr}(h:s.heap.objs.size<=a):a∉X.fs:=fun hb=>by
 obtain⟨_,o,ho,_⟩:=I.ok.funs.mem hb;exact absurd (zN (zJ ho) (zP I.sz h)) (yX _)
theorem Inv.cne(I:Inv X pins σ H s):∀x c,X.env.cells.lookup x=some c ->c≠X.env.locals:=fun x c e z=>by
 obtain⟨v,o,ho,hd⟩:=I.cell x c e;obtain⟨m,⟨o',es,ep,ho',hd',_⟩,_⟩:=I.loc;rw[z,ho'] at ho;cases ho;rw[hd'] at hd;cases hd
theorem Inv.funs(I:Inv X pins σ H s):s.heap.FunFrames X.base X.outer:=by
 have all:∀(l:List Env),(∀b∈frs l,b∈X.fs) ->X.s₀.heap.FunFrames X.base l ->s.heap.FunFrames X.base l:=by
  intro l;induction l with
  | nil=>intro _ _;trivial
  | cons env r ih=>
   intro hs hl;obtain⟨hk,⟨L,o,hf,hn,ho,hd⟩,hr⟩:=hl;have hL:L∈X.fs:=hs L (by unfold frs;rw[List.filterMap_cons,hf];exact zY)
   obtain⟨sl,e⟩:=I.base.slot L o ho (I.ok.CG L hL) hL fun z=>I.ok.xq L z hL;exact⟨hk,⟨L,_,hf,hn,e,hd⟩,ih (fun b hb=>hs b (by unfold frs;rw[List.filterMap_cons,hf];exact zX _ hb)) hr⟩
 exact all X.outer (fun _ hb=>hb) I.ok.funs
theorem Inv.stack(I:Inv X pins σ H s):s.heap.FunFrames X.base X.stack:=by
 rcases I.ok.stk with e | ⟨e,hf⟩
 ·rw[e];exact I.funs
 ·rw[e];obtain⟨m,hn,_⟩:=I.loc;refine .cons (by rw[I.ok.kind];decide) hf hn ?_ I.funs
  exact Heap.get?_none_of_le (zP I.ok.Af I.ok.above)
theorem Inv.stkSub(I:Inv X pins σ H s):∀b∈frs X.stack,b∈X.env.locals::X.fs:=fun b hb=>by
 rcases I.ok.stk with e | ⟨e,hf⟩
 ·rw[e] at hb;exact zX _ hb
 ·rw[e] at hb;unfold frs at hb;rw[List.filterMap_cons,hf] at hb;exact hb
theorem Inv.stkFree(I:Inv X pins σ H s):∀b∈frs X.stack,H b=none:=fun b hb=>by
 rcases zV.mp (I.stkSub b hb) with e | hb
 ·rw[e];exact I.free
 ·obtain⟨_,o,ho,_⟩:=I.ok.funs.mem hb;exact I.base.free b o ho (I.ok.CG b hb) fun z=>I.ok.xq b z hb
theorem Inv.step{g' :Array GenState}{t' :Nat}{d' :Drawn}{ch:List Addr}(I:Inv X pins σ H s)
  (hch:∀b∈ch,(b∈X.ex\/X.s₀.heap.objs.size<=b)/\b≠X.env.locals/\ (∀x c,X.env.cells.lookup x=some c ->c≠b)/\∀p∈X.pn++pins,p.1≠b)
  (keep:∀b o,b≠X.env.locals ->b∉X.fs ->b∉ch ->s.heap.get? b=some o ->H b=none ->h'.get? b=some o)
  (slot:∀b o,b≠X.env.locals ->b∈X.fs ->b∉ch ->s.heap.get? b=some o ->H b=none ->∃sl,h'.get? b=some {o with slots:=sl}) (free:∀b o,b∉ch ->s.heap.get? b=some o ->H b=none ->H' b=none)
  (there:∀b o,b∉ch ->s.heap.get? b=some o ->∃o',h'.get? b=some o')
  (tups:∀b xs,H b=some (.tup xs) ->H' b=some (.tup xs)) (lO:∀b o u,H b=some (.frz o u) ->H' b=some (.frz o u)) (mQ:∀b ps,H b=some (.vO ps) ->∃more,H' b=some (.vO (ps++more)))
  (ns:∀m,s.heap.Ns X.env.locals m ->h'.Ns X.env.locals m) (hok:gP X.prog X.w H' h') (hg:AllBare g'):
  Inv X pins σ H' {s with heap:=h',gens:=g',drawn:=d',toks:=t'}:=by
 have Vq:∀b o,X.s₀.heap.get? b=some o ->b≠X.env.locals:=fun b o e=>zL (zN (zJ e) I.ok.above);have IV:∀b o,X.s₀.heap.get? b=some o ->b∉X.ex ->b∉ch:=fun b o e hx hb=>by
  rcases(hch b hb).1 with z | z
  ·exact hx z
  ·exact absurd (zN (zJ e) z) (yX _)
 have cellK:∀x c,X.env.cells.lookup x=some c ->∀v,s.heap.IsCell c v ->h'.IsCell c v:=fun x c e v ⟨o,ho,hd⟩=>by
  have CJ:c∉ch:=fun z=>(hch c z).2.2.1 x c e rfl;by_cases hc:c∈X.fs
  ·obtain⟨sl,q⟩:=slot c o (I.cne x c e) hc CJ ho (I.freeC x c e);exact⟨_,q,hd⟩
  ·exact⟨o,keep c o (I.cne x c e) hc CJ ho (I.freeC x c e),hd⟩
 refine⟨I.ok,I.os,hg,⟨fun b o e n hb hx=> ?_,fun b o e n hb hx=> ?_,fun b o e n hx=> ?_,fun b o e hx=> ?_,fun b xs e=>tups b xs (I.base.tups b xs e),fun b o xs e=>lO b o xs (I.base.lO b o xs e),fun b ps e=> ?_⟩,?_,fun x c e=> ?_,?_,fun x c e=> ?_,fun p hp=> ?_,hok,I.len⟩
 ·exact keep b o (Vq b o e) hb (IV b o e hx) (I.base.keep b o e n hb hx) (I.base.free b o e n hx)
 ·obtain⟨sl,e1⟩:=I.base.slot b o e n hb hx;obtain⟨sl',e2⟩:=slot b _ (Vq b o e) hb (IV b o e hx) e1 (I.base.free b o e n hx);exact⟨sl',e2⟩
 ·obtain⟨o',e1⟩:=I.base.there b o e hx;exact free b o' (IV b o e hx) e1 (I.base.free b o e n hx)
 ·obtain⟨o',e1⟩:=I.base.there b o e hx;exact there b o' (IV b o e hx) e1
 ·obtain⟨m1,e1⟩:=I.base.mQ b ps e;obtain⟨m2,e2⟩:=mQ b _ e1;exact⟨m1++m2,by rw[e2,Array.append_assoc]⟩
 ·obtain⟨m,hn,hl⟩:=I.loc;refine⟨m,ns m hn,fun i x v e1 e2 e3=> ?_⟩;obtain⟨u,r,l⟩:=hl i x v e1 e2 e3;refine⟨u,r,?_⟩;rcases l with l | ⟨k,c,e,z⟩
  ·exact .inl l
  ·exact .inr ⟨k,c,e,cellK x c e _ z⟩
 ·obtain⟨v,z⟩:=I.cell x c e;exact⟨v,cellK x c e v z⟩
 ·obtain⟨m,⟨o,_,_,ho,_⟩,_⟩:=I.loc;exact free _ o (fun z=>(hch _ z).2.1 rfl) ho I.free
 ·obtain⟨v,o,ho,hd⟩:=I.cell x c e;exact free c o (fun z=>(hch c z).2.2.1 x c e rfl) ho (I.freeC x c e)
 ·obtain⟨e,n,ne,nf,d⟩:=I.pin p hp;have CJ:p.1∉ch:=fun z=>(hch p.1 z).2.2.2 p hp rfl;exact⟨keep p.1 p.2 ne nf CJ e n,free p.1 p.2 CJ e n,ne,nf,d⟩
theorem Inv.un{t' :Nat}(I:Inv X pins σ H s)(u:Un X.fs [] H H' s.heap h')(hok:gP X.prog X.w H' h'):Inv X pins σ H' {s with heap:=h',toks:=t'}:=by
 obtain⟨m,⟨o,es,ep,ho,r⟩,_⟩:=id I.loc;obtain⟨sl,hL⟩:=u.any ho I.free (by simp)
 exact I.step (g' :=s.gens) (d' :=s.drawn) (ch:= []) (fun _ z=>nomatch z) (fun b o _ hb _ e n=>u.keep b o e n hb (by simp)) (fun b o _ hb _ e n=>u.slot b o e n hb (by simp)) (fun b o _ e n=>u.free b o e n (by simp)) (fun b o _ e=>u.there b o e (by simp)) u.tups u.lO u.mQ (fun m' hm=>by
  obtain⟨o',es',ep',ho',r'⟩:=hm;rw[ho] at ho';cases ho';exact⟨_,es',ep',hL,r'⟩) hok I.bare
theorem Inv.call{g' :Array GenState}{t' :Nat}{d' :Drawn}{ch:List Addr}(I:Inv X pins σ H s)(u:Un (frs X.stack) ch H H' s.heap h')(hok:gP X.prog X.w H' h')(hg:AllBare g')
  (hch:∀b∈ch,(b∈X.ex\/X.s₀.heap.objs.size<=b)/\b≠X.env.locals/\ (∀x c,X.env.cells.lookup x=some c ->c≠b)/\∀p∈X.pn++pins,p.1≠b):
  Inv X pins σ H' {s with heap:=h',gens:=g',drawn:=d',toks:=t'}:=by
 obtain⟨m,⟨o,es,ep,ho,r⟩,_⟩:=id I.loc;obtain⟨sl,hL⟩:=u.any ho I.free fun z=>(hch _ z).2.1 rfl;exact I.step (ch:=ch) hch (fun b o hL hb hc e n=>u.keep b o e n (fun z=>(zV.mp (I.stkSub b z)).elim hL hb) hc) (fun b o _ _ hc e n=>u.any e n hc) (fun b o hc e n=>u.free b o e n hc) (fun b o hc e=>u.there b o e hc) u.tups u.lO u.mQ (fun m' hm=>by
  obtain⟨o',es',ep',ho',r'⟩:=hm;rw[ho] at ho';cases ho';exact⟨_,es',ep',hL,r'⟩) hok hg
theorem Inv.turned{t' :Nat}{it:Addr}(I:Inv X pins σ H s)(k:∀b o,b≠it ->s.heap.get? b=some o ->h'.get? b=some o)(hn:H it=none)(hL:it≠X.env.locals)
  (h1:it∈X.ex\/X.s₀.heap.objs.size<=it) (h2:∀x c,X.env.cells.lookup x=some c ->c≠it) (h3:∀p∈X.pn++pins,p.1≠it):Inv X pins σ H {s with heap:=h',toks:=t'}:=by
 have CK:∀b u,H b=some u ->b≠it:=fun b u e z=>by rw[z,hn] at e;cases e
 refine I.step (g' :=s.gens) (d' :=s.drawn) (ch:= [it]) (fun b hb=> ?_) (fun b o _ _ hc e _=>k b o (fun z=>hc (by simp [z])) e) (fun b o _ _ hc e _=>⟨o.slots,k b o (fun z=>hc (by simp [z])) e⟩) (fun _ _ _ _ n=>n)
  (fun b o hc e=>⟨o,k b o (fun z=>hc (by simp [z])) e⟩) (fun _ _ e=>e) (fun _ _ _ e=>e) (fun b ps e=>⟨#[],by rw[e];simp⟩) (fun m hm=> ?_) (fun b u e=> ?_) I.bare
 ·have e:b=it:=by simpa using hb
  subst e;exact⟨h1,hL,h2,h3⟩
 ·obtain⟨o,es,ep,ho,r⟩:=hm;exact⟨o,es,ep,k _ o (Ne.symm hL) ho,r⟩
 ·refine(I.hok b u e).stay (fun c v hc q=>k c v ?_ q) (fun _ q=>q) fun _ _ q=>q;rcases hc with z | z
  ·rw[z];exact CK b u e
  ·exact CK c _ z
theorem Inv.tok(I:Inv X pins σ H s)(t:Nat):Inv X pins σ H {s with toks:=t}:=I.un (h' :=s.heap) (t' :=t) Un.refl I.hok
theorem Inv.kept{t' :Nat}(I:Inv X pins σ H s)(k:∀b u,s.heap.get? b=some u ->h'.get? b=some u):Inv X pins σ H {s with heap:=h',toks:=t'}:=I.un (Un.kept k) (I.hok.kept k)
theorem Inv.laid{a:Addr}{o:HO}{t' :Nat}(I:Inv X pins σ H s)(k:∀b u,s.heap.get? b=some u ->h'.get? b=some u)(hp:s.heap.objs.size<=a)(new:bw X.prog X.w (upd H a o) h' a o):
  Inv X pins σ (upd H a o) {s with heap:=h',toks:=t'}:=I.un (Un.laid k hp (I.hok.fresh hp)) (I.hok.laid k hp new)
theorem Inv.write{x e:Addr}{o:HO}{t' :Nat}(I:Inv X pins σ H s)(mu:Cw (H x))(he:e=x\/H e=some (.own x))(k:∀b u,b≠e ->s.heap.get? b=some u ->h'.get? b=some u)(heo:∃u,h'.get? e=some u)
  (new:bw X.prog X.w (upd H x o) h' x o):Inv X pins σ (upd H x o) {s with heap:=h',toks:=t'}:=I.un (Un.write mu he k heo) (I.hok.write mu he k heo new)
theorem Inv.pins_of{pR :bA}(I:Inv X pins σ H s)(h:∀p∈pR,s.heap.get? p.1=some p.2/\H p.1=none/\p.1≠X.env.locals/\p.1∉X.fs/\∀v,p.2.data≠ .cell v):Inv X pR σ H s:=
 ⟨I.ok,I.os,I.bare,I.base,I.loc,I.cell,I.free,I.freeC,fun p hp=>(zU.mp hp).elim (fun z=>I.pin p (zQ _ z)) (h p),I.hok,I.len⟩
theorem Vr{N:List Str}(hN:N.Nodup){i j:Nat}{x:Str}(a:N[i]?=some x)(b:N[j]?=some x):i=j:=by
 obtain⟨h1,e1⟩:=zW.mp a;obtain⟨h2,e2⟩:=zW.mp b;exact(List.getElem_inj hN).mp (e1.trans e2.symm)
theorem Vs{M:Model}{A:Around}{E:bH}{i:Nat}{x:Str}{v:V}{u:Value}{Q:Unit ->Shared ->Prop}(I:Inv X pins σ H s)(hN:X.N.Nodup)(hi:X.N[i]?=some x)(hx:Loc X.env.scope x)(r:RelV v u)
  (h:∀s',Inv X pins (σ.set i (some v)) H s' ->(∃a,Heap.SameBut a s.heap s'.heap/\ (a=X.env.locals\/X.env.cells.lookup x=some a)) ->Q () s') (hf:X.fn x=true\/X.env.scope.names.lookup x=some .local:=by first | exact .inl rfl | exact .inr rfl | assumption):wpAny M A (storeName X.env x u) Q E s:=by
 obtain⟨m,hn,hl⟩:=id I.loc;have hcls:(X.env.scope.kind== .class || (X.env.scope.kind== .module&&X.env.locals !=X.env.globals))=false:=by rw[I.ok.kind];rfl
 have Vt:i<σ.length:=by rw[I.len];exact(zW.mp hi).1
 have cne:=I.cne;have tracked:∀{a:Addr} {h' :Heap},(∃o,s.heap.get? a=some o/\H a=none) ->Heap.SameBut a s.heap h' ->gP X.prog X.w H h' :=fun{a h'} ha hs b ob e=>by
  obtain⟨_,_,hfree⟩:=ha;refine(I.hok b ob e).stay (fun c w' hc q=>(hs.2 c ?_).trans q) (fun _ q=>q) fun _ _ q=>q;rintro rfl;rcases hc with rfl | hc
  ·rw[hfree] at e;cases e
  ·rw[hfree] at hc;cases hc
 rcases hx with hk | hk
 ·refine wpAny_storeName_local hk hn (fun h' hn' hs=> ?_) hcls;obtain⟨oL,_,_,hoL,_⟩:=id hn;refine h _ ⟨I.ok,I.os,I.bare,⟨fun b o e n hb hx=> ?_,fun b o e n hb hx=> ?_,I.base.free,fun b o e hx=> ?_,I.base.tups,I.base.lO,I.base.mQ⟩,⟨_,hn',fun j y v' e1 e2 e3=> ?_⟩,fun y c e=> ?_,I.free,I.freeC,fun p hp=> ?_,tracked ⟨oL,hoL,I.free⟩ hs,by simpa using I.len⟩ ⟨_,hs,.inl rfl⟩
  ·exact(hs.2 b (zL (zN (zJ e) I.ok.above))).trans (I.base.keep b o e n hb hx)
  ·obtain⟨sl,e1⟩:=I.base.slot b o e n hb hx;exact⟨sl,(hs.2 b (zL (zN (zJ e) I.ok.above))).trans e1⟩
  ·obtain⟨o',e1⟩:=I.base.there b o e hx;exact⟨o',(hs.2 b (zL (zN (zJ e) I.ok.above))).trans e1⟩
  ·by_cases hj:j=i
   ·subst hj;rw[hi] at e1;cases e1;rw[List.getElem?_set_self Vt] at e2;cases e2;exact⟨u,r,.inl ⟨hk,by simp⟩⟩
   ·rw[List.getElem?_set_ne (Ne.symm hj)] at e2;obtain⟨u',r',q⟩:=hl j y v' e1 e2 e3;refine⟨u',r',?_⟩;rcases q with ⟨k,e⟩ | ⟨k,c,e,z⟩
    ·refine .inl ⟨k,?_⟩;have:y≠x:=fun e=>hj (Vr hN e1 (e ▸ hi));simp [this,e]
    ·exact .inr ⟨k,c,e,z.sameBut hs (cne y c e)⟩
  ·obtain⟨w',z⟩:=I.cell y c e;exact⟨w',z.sameBut hs (cne y c e)⟩
  ·obtain⟨e,n,ne,nf,d⟩:=I.pin p hp;exact⟨(hs.2 p.1 ne).trans e,n,ne,nf,d⟩
 ·have hfn:X.fn x=true:=by
   rcases hf with z | z
   ·exact z
   ·rw[z] at hk;cases hk
  obtain⟨c,hc⟩:=I.ok.has x (.inl hk);obtain⟨w',z⟩:=I.cell x c hc;refine wpAny_storeName_cell I.ok.kind hk hc z (fun h' hc' hs=> ?_);obtain⟨oc,hoc,Ln⟩:=id z;refine h {s with heap:=h'} ⟨I.ok,I.os,I.bare,⟨fun b o e n hb hx=> ?_,fun b o e n hb hx=> ?_,I.base.free,fun b o e hx=> ?_,I.base.tups,I.base.lO,I.base.mQ⟩,⟨m,hn.sameBut hs (Ne.symm (cne x c hc)),fun j y v' e1 e2 e3=> ?_⟩,fun y c' e=> ?_,I.free,I.freeC,fun p hp=> ?_,tracked ⟨oc,hoc,I.freeC x c hc⟩ hs,by simpa using I.len⟩ ⟨c,hs,.inr hc⟩
  ·exact(hs.2 b (zL (zN (zJ e) (I.ok.cab x c hfn hc)))).trans (I.base.keep b o e n hb hx)
  ·obtain⟨sl,e1⟩:=I.base.slot b o e n hb hx;exact⟨sl,(hs.2 b (zL (zN (zJ e) (I.ok.cab x c hfn hc)))).trans e1⟩
  ·obtain⟨o',e1⟩:=I.base.there b o e hx;exact⟨o',(hs.2 b (zL (zN (zJ e) (I.ok.cab x c hfn hc)))).trans e1⟩
  ·by_cases hj:j=i
   ·subst hj;rw[hi] at e1;cases e1;rw[List.getElem?_set_self Vt] at e2;cases e2;exact⟨u,r,.inr ⟨.inl hk,c,hc,hc'⟩⟩
   ·rw[List.getElem?_set_ne (Ne.symm hj)] at e2;obtain⟨u',r',q⟩:=hl j y v' e1 e2 e3;refine⟨u',r',?_⟩;rcases q with q | ⟨k,c',e,z'⟩
    ·exact .inl q
    ·refine .inr ⟨k,c',e,z'.sameBut hs ?_⟩;rintro rfl;exact hj (Vr hN e1 (I.ok.inj _ _ _ e hc ▸ hi))
  ·by_cases hcc:c' =c
   ·subst hcc;exact⟨_,hc'⟩
   ·obtain⟨w2,z2⟩:=I.cell y c' e;exact⟨w2,z2.sameBut hs hcc⟩
  ·obtain⟨e,n,ne,nf,d⟩:=I.pin p hp;refine⟨(hs.2 p.1 ?_).trans e,n,ne,nf,d⟩;intro q;rw[q,hoc] at e;have q' :oc=p.2:=zH e;exact d w' (by rw[<- q'];exact Ln)
theorem IW{M:Model}{A:Around}{E:bH}{i:Nat}{x:Str}{v:V}{u:Value}{Q:Unit ->Shared ->Prop}(I:Inv X pins σ H s)(hN:X.N.Nodup)(hi:X.N[i]?=some x)(hx:Loc X.env.scope x)(r:RelV v u)
  (h:∀s',Inv X pins (σ.set i (some v)) H s' ->Q () s') (hf:X.fn x=true\/X.env.scope.names.lookup x=some .local:=by first | exact .inl rfl | exact .inr rfl | assumption):wpAny M A (storeName X.env x u) Q E s:=
 Vs I hN hi hx r (fun s' I' _=>h s' I') hf
theorem Inv.call'{s' :Shared}{ch:List Addr}(I:Inv X pins σ H s)(ho:s'.os=s.os)(u:Un (frs X.stack) ch H H' s.heap s'.heap)(hok:gP X.prog X.w H' s'.heap)(hg:AllBare s'.gens)
  (hch:∀b∈ch,(b∈X.ex\/X.s₀.heap.objs.size<=b)/\b≠X.env.locals/\ (∀x c,X.env.cells.lookup x=some c ->c≠b)/\∀p∈X.pn++pins,p.1≠b):Inv X pins σ H' s' :=by
 obtain⟨h',g',d',t',o'⟩:=s';have e:o' =s.os:=ho;subst e;exact I.call (g' :=g') (t' :=t') (d' :=d') u hok hg hch
end
abbrev XK:=Value ->Option Addr ->Hp ->Prop
abbrev St:=List (Option V)
abbrev VK:=V ->Hp ->Prop
abbrev TE:=St ->Hp ->VK ->Prop
abbrev TT:=St ->Hp ->(Bool ->Hp ->Prop) ->Prop
abbrev TA:=St ->Hp ->(List V ->Hp ->Prop) ->Prop
structure Ends where
 nx:St ->Hp ->Prop
 rt:VK
 bk:St ->Hp ->Prop:=fun _ _=>False
 ct:St ->Hp ->Prop:=fun _ _=>False
abbrev TS:=Ends ->St ->Hp ->Prop
def EP(X:Cx)(pins:bA)(σ:St)(Q:VK)(u:Value)(s' :Shared):Prop:=∃v H',Inv X pins σ H' s' /\RelV v u/\Q v H'
def TP(X:Cx)(pins:bA)(σ:St)(Q:Bool ->Hp ->Prop)(b:Bool)(s' :Shared):Prop:=∃H',Inv X pins σ H' s' /\Q b H'
def AP(X:Cx)(pins:bA)(σ:St)(Q:List V ->Hp ->Prop)(us:List Value)(s' :Shared):Prop:=∃vs H',Inv X pins σ H' s' /\Vals vs us/\Q vs H'
def SP(X:Cx)(pins:bA)(D:Ends)(f:Flow)(s' :Shared):Prop:=
 match f with
 | .next=>∃σ' H',Inv X pins σ' H' s' /\D.nx σ' H'
 | .brk=>∃σ' H',Inv X pins σ' H' s' /\D.bk σ' H'
 | .cont=>∃σ' H',Inv X pins σ' H' s' /\D.ct σ' H'
 | .ret u=>∃v σ' H',Inv X pins σ' H' s' /\RelV v u/\D.rt v H'
def PE(X:Cx)(e:Expr)(t:TE):Prop:=
 ∀(pins:bA) (s:Shared) (σ:St) (H:Hp) (Q:VK),Inv X pins σ H s ->t σ H Q ->wpAny (model X.prog X.w) X.A (eval e X.env) (EP X pins σ Q) X.xe s
def PT(X:Cx)(e:Expr)(t:TT):Prop:=
 ∀(pins:bA) (s:Shared) (σ:St) (H:Hp) (Q:Bool ->Hp ->Prop),Inv X pins σ H s ->t σ H Q ->wpAny (model X.prog X.w) X.A (isTrue e X.env (eval e X.env)) (TP X pins σ Q) X.xe s
def PW(X:Cx)(e:Expr)(t:TT):Prop:=
 ∀(whole:Sem Value) (pins:bA) (s:Shared) (σ:St) (H:Hp) (Q:Bool ->Hp ->Prop),Inv X pins σ H s ->t σ H Q ->wpAny (model X.prog X.w) X.A (isTrue e X.env whole) (TP X pins σ Q) X.xe s
def PA(X:Cx)(es:List Expr)(t:TA):Prop:=
 ∀(pos:Pos) (pins:bA) (s:Shared) (σ:St) (H:Hp) (Q:List V ->Hp ->Prop),Inv X pins σ H s ->t σ H Q ->wpAny (model X.prog X.w) X.A (spliced (backTo pos (starEach es X.env))) (AP X pins σ Q) X.xe s
def PS(X:Cx)(st:Stmt)(t:TS):Prop:=
 ∀(pins:bA) (s:Shared) (σ:St) (H:Hp) (D:Ends),Inv X pins σ H s ->t D σ H ->wpAny (model X.prog X.w) X.A (exec st X.env) (SP X pins D) X.xe s
def rB(X:Cx)(st:List Stmt)(t:TS):Prop:=
 ∀(pins:bA) (s:Shared) (σ:St) (H:Hp) (D:Ends),Inv X pins σ H s ->t D σ H ->wpAny (model X.prog X.w) X.A (execs st X.env) (SP X pins D) X.xe s
theorem bD{α:Type}{t:Sem α}{Q Q' :α ->Shared ->Prop}{M:Model}{A:Around}{E:bH}{s:Shared}(h:wpAny M A t Q E s)(hQ:∀a s,Q a s ->Q' a s):wpAny M A t Q' E s:=wpAny_mono h hQ fun _ _ x=>x
section
variable{X:Cx}
def CN(i:Nat):TE:=fun σ H Q=>∃v,σ[i]?=some (some v)/\Q v H
def tC(v:V):TE:=fun _ H Q=>Q v H
theorem o7{i:Nat}{x:Str}{pos:Pos}(hN:X.N[i]?=some x)(hv:mU X.env.scope x)(hd:(x==("__debug__" :Str))=false:=by decide)(hcd:(x==("__classdict__" :Str))=false:=by decide):PE X (.Name x pos) (CN i):=by
 intro pins s σ H Q I h;obtain⟨v,e,h⟩:=h;obtain⟨m,hn,hl⟩:=I.loc;obtain⟨u,r,l⟩:=hl i x v hN e hv;have fin:EP X pins σ Q u s:=⟨v,H,I,r,h⟩;rcases l with ⟨hk,hm⟩ | ⟨hk,c,hc,hcell⟩
 ·exact wpAny_Name (wpAny_loadName_local I.ok.kind hk hn hm fin) hd
 ·rcases hk with hk | hk
  ·exact wpAny_Name (wpAny_loadName_cell I.ok.kind hk hc hcell fin) hd
  ·exact wpAny_Name (wpAny_loadName_free I.ok.kind hk hc hcell fin hcd) hd
theorem z4d{i j pos}:PE X (.Constant (.int i) j pos) (tC (.int i)):=fun _ _ _ H _ I h=>wpAny_Constant_int ⟨.int i,H,I.tok _,⟨_,rfl⟩,h⟩
theorem z5g{b j pos}:PE X (.Constant (.bool b) j pos) (tC (.bl b)):=fun _ _ _ H _ I h=>Constant_bool ⟨.bl b,H,I,rfl,h⟩
theorem z3c{x j pos}:PE X (.Constant (.str x) j pos) (tC (.str x)):=fun _ _ _ H _ I h=>Calls.Constant_str ⟨.str x,H,I.tok _,⟨_,rfl⟩,h⟩
def Gl(X:Cx)(x:Str):Prop:=X.env.kindOf x=some .globalImplicit
theorem Lq{E:bH}{pins:bA}{s:Shared}{σ:St}{H:Hp}{x:Str}{u:Value}{pos:Pos}{Q:bH}(I:Inv X pins σ H s)(hg:Gl X x)(hm:X.mg x=some u)(h:Q u s)
  (hd:(x==("__debug__" :Str))=false:=by decide):wpAny (model X.prog X.w) X.A (eval (.Name x pos) X.env) Q E s:=
 Calls.Name_function_global I.ok.kind hg (Calls.loadGlobal_global (by rw[I.ok.glob];exact I.mod.glob.keeps I.bk) hm h) hd
theorem vP{E:bH}{pins:bA}{s:Shared}{σ:St}{H:Hp}{x:Str}{u:Value}{pos:Pos}{Q:bH}(I:Inv X pins σ H s)(hg:Gl X x)(hm:X.mg x=none)(hv:bootBuiltins x=some u)(h:Q u s)
  (hn:x≠ "__name__" :=by decide) (hd:(x==("__debug__" :Str))=false:=by decide):wpAny (model X.prog X.w) X.A (eval (.Name x pos) X.env) Q E s:=by
 obtain⟨mb,h1,h2⟩:=I.mod.blt;exact Calls.Name_function_global I.ok.kind hg (Calls.loadGlobal_builtin (by rw[I.ok.glob];exact I.mod.glob.keeps I.bk) hm (by rw[I.ok.blt];exact h1.keeps I.bk) ((h2 x hn).trans hv) h) hd
def Ja(ta tb:TE)(k:Int ->Int ->Hp ->Prop):St ->Hp ->Prop:=fun σ H=>ta σ H fun x H1=>tb σ H1 fun y H2=>∃i j,x= .int i/\y= .int j/\k i j H2
def aac(ta tb:TE):TE:=fun σ H Q=>Ja ta tb (fun i j H2=>Q (.int (i+j)) H2) σ H
def aad(ta tb:TE):TE:=fun σ H Q=>Ja ta tb (fun i j H2=>Q (.int (i - j)) H2) σ H
def aae(ta tb:TE):TE:=fun σ H Q=>Ja ta tb (fun i j H2=>(-(2^64)<i/\i<2^64)/\Q (.int (i*j)) H2) σ H
variable{a b:Expr}{ta tb:TE}{pos:Pos}
def PC(X:Cx)(op:CmpOp)(a b:Expr)(t:TE):Prop:=
 ∀(pins:bA) (s:Shared) (σ:St) (H:Hp) (Q:VK),Inv X pins σ H s ->t σ H Q ->
  wpAny (model X.prog X.w) X.A (eval a X.env) (fun v s₁=>wpAny (model X.prog X.w) X.A (eval b X.env) (fun u s₂=>wpAny (model X.prog X.w) X.A (compareOp op v u) (EP X pins σ Q) X.xe s₂) X.xe s₁) X.xe s
def qw(p:Int ->Int ->Bool)(ta tb:TE):TE:=fun σ H Q=>Ja ta tb (fun i j H2=>Q (.bl (p i j)) H2) σ H
abbrev tLt:TE ->TE ->TE:=qw fun i j=>decide (i<j)
abbrev tLe:TE ->TE ->TE:=qw fun i j=>decide (i<=j)
abbrev tGt:TE ->TE ->TE:=qw fun i j=>decide (j<i)
abbrev tGe:TE ->TE ->TE:=qw fun i j=>decide (j<=i)
abbrev aaf:TE ->TE ->TE:=qw fun i j=>decide (i=j)
abbrev aag:TE ->TE ->TE:=qw fun i j=> !decide (i=j)
def aah(ta:TE):TE:=fun σ H Q=>ta σ H fun x H1=>Q (.bl (decide (x= .non))) H1
def Vu(ta:TE):TE:=fun σ H Q=>ta σ H fun x H1=>Q (.bl (!decide (x= .non))) H1
def tB(t:TE):TT:=fun σ H Q=>t σ H fun x H1=>∃c,x= .bl c/\Q c H1
theorem Lr{op:CmpOp}{t:TE}(h:PC X op a b t)(h1:behindInMarks op b=false:=by first | exact CP _ (by decide) (by decide) | rfl):PT X (.Compare a [op] [b] pos) (tB t):=by
 intro pins s σ H Q I hw;refine wpAny_isTrue_Compare1 (bD (h pins s σ H _ I hw) fun v s1 h1=>bD h1 fun u s2 h2=>bD h2 fun c s3 ⟨x,H1,I1,r1,q1⟩=> ?_) h1;obtain⟨d,rfl,q⟩:=q1;cases r1;exact wpAny_truthy_bool ⟨H1,I1,q⟩
theorem z4v{e:Expr}{t:TE}(h:PE X e t)(he:∀whole,isTrue e X.env whole=(do let v<- whole;standAt e.pos;holding [v] (truthy v)):=by intro _;rfl):PT X e (tB t):=by
 intro pins s σ H Q I hw;refine isTrue_plain (bD (h pins s σ H _ I hw) fun v s1 ⟨x,H1,I1,r1,q1⟩=> ?_) (he _);obtain⟨d,rfl,q⟩:=q1;cases r1;exact wpAny_truthy_bool ⟨H1,I1,q⟩
variable{tA tB' :TT}{rest:List Expr}
def aai(t u:TT):TT:=fun σ H Q=>t σ H fun c H1=>if c=true then u σ H1 Q else Q false H1
def tOr(t u:TT):TT:=fun σ H Q=>t σ H fun c H1=>if c=true then Q true H1 else u σ H1 Q
def Ls(t:TT):TT:=fun σ H Q=>t σ H fun c H1=>Q (!c) H1
theorem z4b(ha:PT X a tA):PT X (.UnaryOp .Not a pos) (Ls tA):=by
 intro pins s σ H Q I h;exact isTrue_not (ha pins s σ H (fun c H1=>Q (!c) H1) I h)
def CQ(ta tb:TE):TE:=fun σ H Q=>ta σ H fun x H1=>∃c,x= .bl c/\if c=true then tb σ H1 Q else Q (.bl false) H1
def Lx(ta tb:TE):TE:=fun σ H Q=>ta σ H fun x H1=>∃c,x= .bl c/\if c=true then Q (.bl true) H1 else tb σ H1 Q
def Vv(ta:TE):TE:=fun σ H Q=>ta σ H fun x H1=>∃c,x= .bl c/\Q (.bl (!c)) H1
theorem z4u{op}{t:TE}(h:PE X a t):PE X (.BoolOp op [a] pos) t:=fun pins s σ H Q I hw=>BoolOp_one (h pins s σ H Q I hw)
theorem z34(ha:PE X a ta)(hb:PE X (.BoolOp .And (b::rest) pos) tb):PE X (.BoolOp .And (a::b::rest) pos) (CQ ta tb):=by
 intro pins s σ H Q I h;refine BoolOp_and (bD (ha pins s σ H _ I h) fun v s1 qx=> ?_);obtain⟨x,H1,I1,r1,q1⟩:=qx;obtain⟨c,rfl,q1⟩:=q1;cases r1;refine wpAny_truthy_bool ?_;cases c with
 | true=>exact hb pins s1 σ H1 Q I1 q1
 | false=>exact⟨.bl false,H1,I1,rfl,q1⟩
theorem z52(ha:PE X a ta)(hb:PE X (.BoolOp .Or (b::rest) pos) tb):PE X (.BoolOp .Or (a::b::rest) pos) (Lx ta tb):=by
 intro pins s σ H Q I h;refine BoolOp_or (bD (ha pins s σ H _ I h) fun v s1 hq8=> ?_);obtain⟨x,H1,I1,r1,q1⟩:=hq8;obtain⟨c,rfl,q1⟩:=q1;cases r1;refine wpAny_truthy_bool ?_;cases c with
 | false=>exact hb pins s1 σ H1 Q I1 q1
 | true=>exact⟨.bl true,H1,I1,rfl,q1⟩
def tIf(t:TT)(ta tb:TE):TE:=fun σ H Q=>t σ H fun c H1=>if c=true then ta σ H1 Q else tb σ H1 Q
theorem zwh{c:Expr}(hc:PT X c tA)(ha:PE X a ta)(hb:PE X b tb):PE X (.IfExp c a b pos) (tIf tA ta tb):=by
 intro pins s σ H Q I h;refine wpAny_IfExp (bD (hc pins s σ H _ I h) fun d s1 ⟨H1,I1,q1⟩=> ?_);cases d with
 | true=>exact ha pins s1 σ H1 Q I1 q1
 | false=>exact hb pins s1 σ H1 Q I1 q1
end
def fL(K:W.Frag)(H:Hp)(a:Addr)(xs:List V):Prop:=
 Rd H a (.lst xs)\/
  ∃(o:Obj) (its:Array Value) (n:Nat),K.lookup a=some o/\o.cls= .type "list" /\o.dict=none/\o.data= .seq its n/\its.size<=sizeLine/\Vals xs its.toList
def iQ(K:W.Frag)(H:Hp)(a:Addr)(xs:List V):Prop:=
 Rd H a (.tup xs)\/
  ∃(o:Obj) (its:Array Value) (n:Nat),K.lookup a=some o/\o.cls= .type "tuple" /\o.data= .seq its n/\its.size<=sizeLine/\Vals xs its.toList
def Ly:Value ->Option V
 | .none=>some .non
 | .bool b=>some (.bl b)
 | .int i _=>some (.int i)
 | .str x _=>some (.str x)
 | .bytes b _=>some (.wZ b)
 | .float b _=>some (.flt b)
 | .ref a=>some (.ref a)
 | .type n=>some (.ty n)
 | _=>none
theorem RelV.abs{x:V}{u:Value}(r:RelV x u):Ly u=some x:=by
 cases x with
 | non=>cases r;rfl
 | bl _=>cases r;rfl
 | int _=>obtain⟨t,rfl⟩:=r;rfl
 | str _=>obtain⟨t,rfl⟩:=r;rfl
 | wZ _=>obtain⟨t,rfl⟩:=r;rfl
 | flt _=>obtain⟨t,rfl⟩:=r;rfl
 | ref _=>cases r;rfl
 | ty _=>cases r;rfl
theorem RelV.inj{x y:V}{u:Value}(r:RelV x u)(q:RelV y u):x=y:=zH (r.abs.symm.trans q.abs)
theorem Vals.inj:∀{xs ys:List V} {us:List Value},Vals xs us ->Vals ys us ->xs=ys
 | _,_,_,.nil,.nil=>rfl
 | _,_,_,.cons r t,.cons r' t' =>by rw[r.inj r',Vals.inj t t']
section
variable{X:Cx}{pins:bA}{σ:St}{H:Hp}{s:Shared}{a:Addr}{xs ys:List V}
theorem Inv.list(I:Inv X pins σ H s)(h:fL X.K H a xs):∃its:List Value,Vals xs its/\PlainL s.heap a its.toArray/\xs.length<=sizeLine:=by
 rcases h with h | ⟨o,its,n,hk,hc,hd,hs,hz,r⟩
 ·obtain⟨z,its,n,r,e⟩:=h.ok I.hok;exact⟨its,r,⟨_,n,e,rfl,rfl,rfl⟩,z⟩
 ·refine⟨its.toList,r,⟨o,n,I.kIn a o hk,hc,hd,by simpa using hs⟩,?_⟩
  have e:=r.length;simp only [Array.length_toList] at e;omega
theorem Inv.tuple(I:Inv X pins σ H s)(h:iQ X.K H a xs):∃its:List Value,Vals xs its/\IsTup s.heap a its.toArray/\xs.length<=sizeLine:=by
 rcases h with h | ⟨o,its,n,hk,hc,hs,hz,r⟩
 ·obtain⟨z,its,r,p⟩:=h.ok I.hok;exact⟨its,r,p,z⟩
 ·refine⟨its.toList,r,⟨o,I.kIn a o hk,hc,n,by simpa using hs⟩,?_⟩
  have e:=r.length;simp only [Array.length_toList] at e;omega
theorem Inv.list_inj(I:Inv X pins σ H s)(h:fL X.K H a xs)(h' :fL X.K H a ys):xs=ys:=by
 obtain⟨its,r,⟨o,n,e,_,_,d⟩,_⟩:=I.list h;obtain⟨its',r',⟨o',n',e',_,_,d'⟩,_⟩:=I.list h';rw[e] at e';cases e';rw[d] at d';injection d' with d1 _;have:its=its' :=by simpa using congrArg Array.toList d1
 subst this;exact r.inj r'
theorem Inv.tuple_inj(I:Inv X pins σ H s)(h:iQ X.K H a xs)(h' :iQ X.K H a ys):xs=ys:=by
 obtain⟨its,r,⟨o,e,_,n,d⟩,_⟩:=I.tuple h;obtain⟨its',r',⟨o',e',_,n',d'⟩,_⟩:=I.tuple h';rw[e] at e';cases e';rw[d] at d';injection d' with d1 _;have:its=its' :=by simpa using congrArg Array.toList d1
 subst this;exact r.inj r'
end
abbrev Cx.wish(X:Cx)(E:bH):Cx:={X with xe:=E}
abbrev Cx.nox(X:Cx):Cx:=X.wish fun _ _=>False
section
variable{X:Cx}{pins:bA}{σ:St}{H:Hp}{s:Shared}{E:bH}
end
section
variable{X:Cx}{st:Stmt}{rest:List Stmt}{t u:TS}{e:Expr}{te:TE}{pos:Pos}
def CT:TS:=fun D σ H=>D.nx σ H
def Lz(t u:TS):TS:=fun D σ H=>t {D with nx:=u D} σ H
theorem z2n:rB X [] CT:=fun _ _ σ H _ I h=>wpAny_execs_nil ⟨σ,H,I,h⟩
theorem zwb(h1:PS X st t)(h2:rB X rest u):rB X (st::rest) (Lz t u):=by
 intro pins s σ H D I h;refine wpAny_execs_cons (bD (h1 pins s σ H {D with nx:=u D} I h) fun f s1 q=> ?_);cases f with
 | next=>
  obtain⟨σ',H',I',q⟩:=q;exact h2 pins s1 σ' H' D I' q
 | ret v=>exact q
 | brk=>exact q
 | cont=>exact q
theorem z1m(h1:PS X st t):rB X [st] t:=by
 intro pins s σ H D I h;refine wpAny_execs_cons (bD (h1 pins s σ H D I h) fun f s1 q=> ?_);cases f with
 | next=>exact wpAny_execs_nil q
 | ret v=>exact q
 | brk=>exact q
 | cont=>exact q
def LC:TS:=fun D σ H=>D.bk σ H
def Vw:TS:=fun D σ H=>D.ct σ H
theorem Inv.quiet{pins:bA}{σ:St}{H:Hp}{s:Shared}(I:Inv X pins σ H s):interactive X.env=false:=by simp [interactive,I.ok.kind]
def CV(te:TE):TS:=fun D σ H=>te σ H fun _ H1=>D.nx σ H1
theorem z10(he:PE X e te)(hs:swapsWith e none pos.line X.env=pure false:=by rfl):PS X (.Expr e pos) (CV te):=by
 intro pins s σ H D I h;exact wpAny_Expr_any (bD (he pins s σ H _ I h) fun v s1 LK=>by obtain⟨x,H1,I1,r1,q1⟩:=LK;exact⟨σ,H1,I1,q1⟩) I.quiet hs
def LQ(te:TE):TS:=fun D σ H=>te σ H D.rt
theorem Vx(he:PE X e te):PS X (.Return (some e) pos) (LQ te):=by
 intro pins s σ H D I h;exact wpAny_Return_some (bD (he pins s σ H _ I h) fun v s1 xr=>by obtain⟨x,H1,I1,r1,q1⟩:=xr;exact⟨x,σ,H1,I1,r1,q1⟩)
def Vy:TS:=fun D _ H=>D.rt .non H
def LR(c:TT)(t u:TS):TS:=fun D σ H=>c σ H fun b H1=>if b=true then t D σ H1 else u D σ H1
theorem z6f{c:Expr}{a b:List Stmt}{tc:TT}(hc:PT X c tc)(ha:rB X a t)(hb:rB X b u):PS X (.If c a b pos) (LR tc t u):=by
 intro pins s σ H D I h;refine wpAny_If (bD (hc pins s σ H _ I h) fun d s1 ⟨H1,I1,q1⟩=> ?_);cases d with
 | true=>exact ha pins s1 σ H1 D I1 q1
 | false=>exact hb pins s1 σ H1 D I1 q1
def Ma:TS:=fun _ _ _=>False
end
abbrev TG:=V ->St ->Hp ->(St ->Hp ->Prop) ->Prop
abbrev uN:=List V ->St ->Hp ->(St ->Hp ->Prop) ->Prop
def PG(X:Cx)(target:Expr)(t:TG):Prop:=
 ∀(pins:bA) (s:Shared) (σ:St) (H:Hp) (v:V) (u:Value) (Q:St ->Hp ->Prop),Inv X pins σ H s ->RelV v u ->t v σ H Q ->
  wpAny (model X.prog X.w) X.A (assign target X.env u) (fun _ s' =>∃σ' H',Inv X pins σ' H' s' /\Q σ' H') X.xe s
def xu(X:Cx)(ts:List Expr)(t:uN):Prop:=
 ∀(pins:bA) (s:Shared) (σ:St) (H:Hp) (vs:List V) (us:List Value) (Q:St ->Hp ->Prop),Inv X pins σ H s ->Vals vs us ->t vs σ H Q ->
  wpAny (model X.prog X.w) X.A (assignInOrder ((assignEach ts X.env).map (·.2)) us) (fun _ s' =>∃σ' H',Inv X pins σ' H' s' /\Q σ' H') X.xe s
abbrev uO:=V ->V ->V ->Hp ->(Hp ->Prop) ->Prop
def CW(X:Cx)(t:uO):Prop:=
 ∀(pins:bA) (s:Shared) (σ:St) (H:Hp) (o i v:V) (ov iv u:Value) (Q:Hp ->Prop),Inv X pins σ H s ->RelV o ov ->RelV i iv ->RelV v u ->t o i v H Q ->
  wpAny (model X.prog X.w) X.A (setItem ov iv u) (fun _ s' =>∃H',Inv X pins σ H' s' /\Q H') X.xe s
abbrev Jb:=V ->V ->Hp ->VK ->Prop
def PIp(X:Cx)(op:Operator)(t:Jb):Prop:=
 ∀(pins:bA) (s:Shared) (σ:St) (H:Hp) (x y:V) (v u:Value) (Q:VK),Inv X pins σ H s ->RelV x v ->RelV y u ->t x y H Q ->
  wpAny (model X.prog X.w) X.A (inplaceOp op v u) (EP X pins σ Q) X.xe s
section
variable{X:Cx}{pos:Pos}
def vQ(i:Nat):TG:=fun v σ H Q=>Q (σ.set i (some v)) H
theorem Vz{i:Nat}{x:Str}(hN:X.N.Nodup)(hi:X.N[i]?=some x)(hx:Loc X.env.scope x)(hf:X.fn x=true\/X.env.scope.names.lookup x=some .local:=by first | exact .inl rfl | exact .inr rfl | assumption):PG X (.Name x pos) (vQ i):=by
 intro pins s σ H v u Q I r h;exact wpAny_assign_Name (IW I hN hi hx r (fun s' I' =>⟨_,H,I',h⟩) hf)
def Mf:uN:=fun vs σ H Q=>vs= []/\Q σ H
def CZ(t:TG)(u:uN):uN:=fun vs σ H Q=>∃v r,vs=v::r/\t v σ H fun σ' H' =>u r σ' H' Q
theorem zz4:xu X [] Mf:=by
 intro pins s σ H vs us Q I r h;obtain⟨e,h⟩:=h;subst e;cases r;exact assignInOrder_nil ⟨σ,H,I,h⟩
theorem zxy{e:Expr}{es:List Expr}{t:TG}{u:uN}(h1:PG X e t)(h2:xu X es u)
  (hs:(assignEach (e::es) X.env).map (·.2)=assign e X.env::(assignEach es X.env).map (·.2):=by rfl):xu X (e::es) (CZ t u):=by
 intro pins s σ H vs us Q I r h;obtain⟨v,vr,e1,h⟩:=h;subst e1;cases r with
 | cons r rr=>
  rw[hs];refine assignInOrder_cons (bD (h1 pins s σ H _ _ _ I r h) fun _ s1 ⟨σ1,H1,I1,q1⟩=> ?_);exact h2 pins s1 σ1 H1 _ _ Q I1 rr q1
def Mg(K:W.Frag)(n:Nat)(t:uN):TG:=fun v σ H Q=>∃a xs,v= .ref a/\iQ K H a xs/\xs.length=n/\t xs σ H Q
theorem z4i{es:List Expr}{k:Nat}{t:uN}{n:Nat}(hc:X.calm=true)(h:xu X es t)
  (hn:(assignEach es X.env).length=n:=by rfl) (hst:(assignEach es X.env).findIdx? (·.1)=none:=by rfl):PG X (.Tuple es k pos) (Mg X.K n t):=by
 intro pins s σ H v u Q I r hw;obtain⟨a,xs,e1,hq,hl,hw⟩:=hw;subst e1;cases r;obtain⟨its,rv,ht,hz⟩:=I.tuple hq;refine assign_Tuple_tuple (I.ok.hd hc) ht (by simp [hn,<- hl,rv.length]) hst fun h' hx=> ?_
 have I1:Inv X pins σ H {s with heap:=h'}:=I.kept (t' :=s.toks) fun b o e=>hx b o (zL (zJ e)) e;exact h pins _ σ H xs _ Q I1 (by simpa using rv) hw
def jW(to ti:TE)(t:uO):TG:=fun v σ H Q=>to σ H fun o H1=>ti σ H1 fun i H2=>t o i v H2 fun H3=>Q σ H3
theorem z4p{o i:Expr}{to ti:TE}{t:uO}(ho:PE X o to)(hi:PE X i ti)(hs:CW X t)
  (ha:∀v,assign (.Subscript o i pos) X.env v=(do
   let ov<- holding [v] (eval o X.env)
   let iv<- holding [v,ov] (eval i X.env)
   standAt pos
   holding [v,ov,iv] (setItem ov iv v)
   release [v,ov,iv] []):=by intro _;rfl):PG X (.Subscript o i pos) (jW to ti t):=by
 intro pins s σ H v u Q I r h;rw[ha];refine z6 (wpAny_holding (bD (ho pins s σ H _ I h) fun ov s1 rG=> ?_));obtain⟨x,H1,I1,r1,q1⟩:=rG;refine z6 (wpAny_holding (bD (hi pins s1 σ H1 _ I1 q1) fun iv s2 rH=> ?_));obtain⟨y,H2,I2,r2,q2⟩:=rH;refine z6 (wpAny_standAt (z6 (wpAny_holding (bD (hs pins s2 σ H2 x y v ov iv u _ I2 r1 r2 r q2) fun _ s3 ⟨H3,I3,q3⟩=> ?_))));exact wpAny_release ⟨σ,H3,I3,q3⟩
def Dc(te:TE)(g:TG):TS:=fun D σ H=>te σ H fun x H1=>g x σ H1 D.nx
theorem z40{tg e:Expr}{te:TE}{g:TG}(he:PE X e te)(hg:PG X tg g)(hs:swapsWithSole [tg] e pos.line X.env=pure false:=by rfl)(hw:swappedStores [tg] e X.env=pure none:=by rfl)
  (h1:(assignEach [tg] X.env).map (·.2)= [assign tg X.env]:=by rfl):PS X (.Assign [tg] e pos) (Dc te g):=by
 intro pins s σ H D I h;refine wpAny_Assign_stores (bD (he pins s σ H _ I h) fun v s1 ⟨x,H1,I1,r1,q1⟩=> ?_) hs hw;rw[h1];exact bD (hg pins s1 σ H1 x v _ I1 r1 q1) fun _ s2 q=>q
theorem Mh{i:Nat}{x:Str}{e:Expr}{te:TE}{pos' :Pos}(hN:X.N.Nodup)(hi:X.N[i]?=some x)(hx:Loc X.env.scope x)(he:PE X e te)(hs:swapsWith e (some (.Name x pos')) pos.line X.env=pure false:=by rfl)(hf:X.fn x=true\/X.env.scope.names.lookup x=some .local:=by first | exact .inl rfl | exact .inr rfl | assumption):
  PS X (.Assign [.Name x pos'] e pos) (Dc te (vQ i)):=by
 intro pins s σ H D I h;refine wpAny_Assign_Name (bD (he pins s σ H _ I h) fun v s1 ⟨y,H1,I1,r1,q1⟩=> ?_) hs;exact IW I1 hN hi hx r1 (fun s2 I2=>⟨_,H1,I2,q1⟩) hf
def Mi(i j:Nat)(ta:TA):TS:=fun D σ H=>ta σ H fun vs H1=>∃v w,vs= [v,w]/\D.nx ((σ.set i (some v)).set j (some w)) H1
theorem z3t{i j:Nat}{x y:Str}{a b:Expr}{ta:TA}{px py pt:Pos}{kt k2 xG}(hc:X.calm=true)(hN:X.N.Nodup)(hi:X.N[i]?=some x)(hj:X.N[j]?=some y)(hij:i≠j)
  (hx:X.env.scope.names.lookup x=some .local) (hy:X.env.scope.names.lookup y=some .local) (ha:PA X [a,b] ta)
  (hw:swappedStores [.Tuple [.Name x px,.Name y py] kt pt] (.Tuple [a,b] k2 xG) X.env=pure (some [x,y]))
  (hs:swapsWithSole [.Tuple [.Name x px,.Name y py] kt pt] (.Tuple [a,b] k2 xG) pos.line X.env=pure false:=by rfl):
  PS X (.Assign [.Tuple [.Name x px,.Name y py] kt pt] (.Tuple [a,b] k2 xG) pos) (Mi i j ta):=by
 intro pins s σ H D I h;rw[exec_Assign_arm];refine z6 (wpAny_standAt ?_);rw[hs];refine z6 (z7 ?_);rw[if_neg (by decide)]
 refine z6 (Tuple_ (bD (ha _ pins s σ H _ I h) fun us s1 Mj=> ?_));obtain⟨vs,H1,I1,r1,q1⟩:=Mj;obtain⟨v,w,e1,q1⟩:=q1;subst e1;obtain⟨u1,u2,rfl,rv,jD⟩:∃u1 u2,us= [u1,u2]/\RelV v u1/\RelV w u2:=by
  cases r1 with
  | cons p q=>
   cases q with
   | cons p' q' =>
    cases q';exact⟨_,_,rfl,p,p'⟩
 refine wpAny_newObj_type ?_ (by show 2<=sizeLine;decide)
 have I2:Inv X pins σ H1 {s1 with heap:=s1.heap.push {cls:= .type "tuple",data:= .seq [u1,u2].toArray}}:=I1.kept (t' :=s1.toks) fun b o e=>z8 _ e;rw[hw];refine z6 (z7 ?_);show wpAny (model X.prog X.w) X.A (do rule "assign.swapped-stores";let items<- unpackItems (.ref s1.heap.objs.size) 2 none;assignInOrder [fun v=>bindName X.env y v,fun v=>bindName X.env x v] items.reverse;pure Flow.next) _ _ _;refine z6 (wpAny_rule (z6 (unpackItems_tuple (items:= #[u1,u2]) (I.ok.hd hc) (IsTup.new s1.heap _) fun h' hx' => ?_)));have I3:=I2.kept (h' :=h') (t' :=s1.toks) fun b o e=>hx' b o (zL (zJ e)) e;show wpAny _ _ (assignInOrder [fun v=>bindName X.env y v,fun v=>bindName X.env x v] [u2,u1]>>=fun _=>pure Flow.next) _ _ _;refine z6 (assignInOrder_cons (wpAny_bindName (IW I3 hN hj (.inl hy) jD (fun s2 I4=> ?_) (.inr hy))));refine assignInOrder_cons (wpAny_bindName (IW I4 hN hi (.inl hx) rv (fun s3 I5=>assignInOrder_nil (z7 ?_)) (.inr hx)));rw[List.set_comm _ _ (Ne.symm hij)] at I5;exact⟨_,H1,I5,q1⟩
def aaj(i:Nat)(te:TE)(ti:Jb):TS:=fun D σ H=>∃x,σ[i]?=some (some x)/\te σ H fun y H1=>ti x y H1 fun z H2=>D.nx (σ.set i (some z)) H2
def VB(to ti te:TE)(Ml:V ->V ->Hp ->VK ->Prop)(tip:Jb)(Mp:uO):TS:=fun D σ H=>to σ H fun o H1=>ti σ H1 fun i H2=>Ml o i H2 fun x H3=>te σ H3 fun y H4=>tip x y H4 fun z H5=>Mp o i z H5 fun H6=>D.nx σ H6
def aak(X:Cx)(t:V ->V ->Hp ->VK ->Prop):Prop:=
 ∀(pins:bA) (s:Shared) (σ:St) (H:Hp) (o i:V) (ov iv:Value) (Q:VK),Inv X pins σ H s ->RelV o ov ->RelV i iv ->t o i H Q ->
  wpAny (model X.prog X.w) X.A (getItem ov iv) (EP X pins σ Q) X.xe s
def ipI(f:Int ->Int ->Int):Jb:=fun x y H Q=>∃i j,x= .int i/\y= .int j/\Q (.int (f i j)) H
end
section
variable{X:Cx}{pos:Pos}
def xH(c:TT)(tb:TS):TS:=fun D σ H=>∃W:Nat ->St ->Hp ->Prop,(∃m,W m σ H)/\∀m σ H,W m σ H ->
 c σ H fun b H1=>if b=true then∃N:St ->Hp ->Prop,(∀σ' H',N σ' H' ->∃m',m' <m/\W m' σ' H')/\tb {D with nx:=N,ct:=N,bk:=D.nx} σ H1 else D.nx σ H1
theorem zxz{c:Expr}{body:List Stmt}{tc:TT}{tb:TS}(hp:PassesOwn (model X.prog X.w) X.A X.env X.xe)(hc:PT X c tc)(hb:rB X body tb):PS X (.While c body [] pos) (xH tc tb):=by
 intro pins s σ H D I h;obtain⟨W,⟨m0,w0⟩,turn⟩:=h;refine wpAny_While (codeAny_whileLoop (fun n s' =>∃σ' H',Inv X pins σ' H' s' /\W n σ' H') ?_ m0 ⟨σ,H,I,w0⟩);rintro n s1 ⟨σ1,H1,I1,w1⟩;refine wpAny_passesOwn hp (bD (hc pins s1 σ1 H1 _ I1 (turn n σ1 H1 w1)) fun b s2 ⟨H2,I2,q2⟩=> ?_);cases b with
 | true=>
  obtain⟨N,hN,q2⟩:=q2;rw[if_pos rfl];refine wpAny_passesOwn hp (bD (hb pins s2 σ1 H2 _ I2 q2) fun f s3 q3=> ?_);cases f with
  | next=>
   obtain⟨σ3,H3,I3,n3⟩:=q3;obtain⟨m',hm,w3⟩:=hN σ3 H3 n3;exact⟨m',hm,σ3,H3,I3,w3⟩
  | cont=>
   obtain⟨σ3,H3,I3,n3⟩:=q3;obtain⟨m',hm,w3⟩:=hN σ3 H3 n3;exact⟨m',hm,σ3,H3,I3,w3⟩
  | brk=>exact q3
  | ret v=>exact q3
 | false=>
  rw[if_neg Bool.false_ne_true];exact wpAny_execs_nil ⟨σ1,H2,I2,q2⟩
end
structure It where
 go:Nat ->Hp ->Prop
 yld:Nat ->Hp ->V ->Hp ->Prop
 stop:Nat ->Hp ->Prop
def gb(X:Cx)(pins:bA)(H:Hp)(b:Addr):Prop:=
 H b=none/\b≠X.env.locals/\b∉X.fs/\ (b∈X.ex\/X.s₀.heap.objs.size<=b)/\ (∀x c,X.env.cells.lookup x=some c ->c≠b)/\∀p∈X.pn++pins,p.1≠b
theorem Inv.fpOk{X:Cx}{pins:bA}{σ:St}{H H' :Hp}{s:Shared}{b:Addr}(I:Inv X pins σ H s)(hb:s.heap.objs.size<=b)(hn:H' b=none):gb X pins H' b:=by
 refine⟨hn,Nat.ne_of_gt (zN I.lt hb),I.nofs hb,.inr (zP I.sz hb),fun x c e z=> ?_,fun p hp z=> ?_⟩
 ·obtain⟨v,q⟩:=I.cell x c e;exact absurd (zN q.lt (by rw[z];exact hb)) (yX _)
 ·exact absurd (zN (zJ (I.pin p hp).1) (by rw[z];exact hb)) (yX _)
structure Turn (P:Program) (w:World) (K:W.Frag) (tg:Expr) (J:It) (fp:List Addr) (it:Addr) (tn:Nat ->Heap ->Prop):Prop where
 mem:it∈fp
 obj:∀i h,tn i h ->∀b∈fp,∃o,h.get? b=some o/\∀v,o.data≠ .cell v
 keep:∀i h h',tn i h ->(∀b∈fp,∀o,h.get? b=some o ->h'.get? b=some o) ->tn i h'
 item:∀(X:Cx),X.prog=P ->X.w=w ->X.K=K ->X.calm=true ->∀(i:Nat) (pins:bA) (s:Shared) (σ:St) (H:Hp) (E:bH),Inv X pins σ H s ->(∀b∈fp,gb X pins H b) ->tn i s.heap ->J.go i H ->
  wpAny (model P w) X.A (pyNext (.ref it)) (fun r s1=>∃u,r=some u/\
   wpAny (model P w) X.A (letOwnedTupleGo tg (.ref it) u) (fun _ s2=>∃x H',Inv X pins σ H' s2/\RelV x u/\J.yld i H x H' /\tn (i+1) s2.heap/\∀b∈fp,H' b=none) E s1) E s
 done:∀(X:Cx),X.prog=P ->X.w=w ->X.K=K ->X.calm=true ->∀(i:Nat) (pins:bA) (s:Shared) (σ:St) (H:Hp) (E:bH),Inv X pins σ H s ->(∀b∈fp,gb X pins H b) ->tn i s.heap ->J.stop i H ->
  wpAny (model P w) X.A (pyNext (.ref it)) (fun r s1=>r=none/\Inv X pins σ H s1) E s
 self:∀(A:Around) (i:Nat) (s:Shared) (Q:bH) (E:bH),tn i s.heap ->Q (.ref it) s ->wpAny (model P w) A (pyIter (.ref it)) Q E s
abbrev TI:=St ->Hp ->(It ->Hp ->Prop) ->Prop
def PIE(X:Cx)(pins:bA)(σ:St)(tg:Expr)(R:It ->Hp ->Prop)(itv:Value)(s2:Shared):Prop:=
 ∃(it:Addr) (fp:List Addr) (tn:Nat ->Heap ->Prop) (J:It) (H' :Hp),itv= .ref it/\Inv X pins σ H' s2/\Turn X.prog X.w X.K tg J fp it tn/\tn 0 s2.heap/\ (∀b∈fp,gb X pins H' b)/\R J H'
def PI(X:Cx)(tg iter:Expr)(wi:TI):Prop:=
 ∀(pins:bA) (s:Shared) (σ:St) (H:Hp) (R:It ->Hp ->Prop),Inv X pins σ H s ->wi σ H R ->
  wpAny (model X.prog X.w) X.A (eval iter X.env) (fun v s1=>wpAny (model X.prog X.w) X.A (pyIter v) (PIE X pins σ tg R) X.xe s1) X.xe s
theorem Dd{M:Model}{A:Around}{E:bH}{s:Shared}{tg:Expr}{it:Addr}{u:Value}{o:Obj}{n:String}{vs:Array Value}{Q:Unit ->Shared ->Prop}(ho:s.heap.get? it=some o)(hc:o.cls= .type n)(hd:o.data= .fields vs)
  (hn: ["enumerate","zip","dict_itemiterator","dict_reverseitemiterator","odict_iterator","itertools.zip_longest","itertools.pairwise"].contains n=false) (hQ:Q () s):wpAny M A (letOwnedTupleGo tg (.ref it) u) Q E s:=by
 unfold letOwnedTupleGo;cases tg<;>first
  | exact z7 hQ
  | (
    cases u<;>first
    | exact z7 hQ
    | (
      refine z6 (wpAny_load ho ?_);rw[hc,hd];show wpAny M A (if (["enumerate","zip","dict_itemiterator","dict_reverseitemiterator","odict_iterator","itertools.zip_longest","itertools.pairwise"].contains n&&vs[0]?==some (rawInt _))=true then _ else _) Q E s;rw[if_neg (by intro h;rw[hn,Bool.false_and] at h;cases h)]
      exact z7 hQ))
def xJ(K:W.Frag)(a:Addr):It:=
 ⟨fun i H=>∃xs x,fL K H a xs/\xs[i]?=some x,fun i H x H' =>H' =H/\∀xs,fL K H a xs ->xs[i]?=some x,fun i H=>∃xs,fL K H a xs/\xs.length<=i⟩
def vR(K:W.Frag)(a:Addr):It:=
 ⟨fun i H=>∃xs x,iQ K H a xs/\xs[i]?=some x,fun i H x H' =>H' =H/\∀xs,iQ K H a xs ->xs[i]?=some x,fun i H=>∃xs,iQ K H a xs/\xs.length<=i⟩
def uf(lo:Int)(n:Nat):It:=⟨fun i _=>i<n,fun i H x H' =>H' =H/\x= .int (lo+i),fun i _=>n<=i⟩
theorem VD{P:Program}{w:World}{K:W.Frag}{tg:Expr}(a it:Addr):Turn P w K tg (xJ K a) [it] it (fun i h=>h.IsListIter it a i) where
 mem:=by simp
 obj:=fun i h st b hb=>by
  have e:b=it:=by simpa using hb
  subst e;obtain⟨o,e,c,d⟩:=st;exact⟨o,e,fun v z=>by rw[d] at z;cases z⟩
 keep:=fun i h h' st k=>st.at fun o e=>k it (by simp) o e
 item:=by
  intro X hP hw hK hc i pins s σ H E I hf st hg;subst hP hw hK;obtain⟨xs,x,hq,hx⟩:=hg;obtain⟨its,rv,p,hz⟩:=I.list hq;obtain⟨u,hu,ru⟩:=rv.get hx;obtain⟨f0,f1,f2,f3,f4,f5⟩:=hf it (by simp)
  refine wpAny_pyNext_list_item st p.isList (x:=u) (by simpa using hu) fun h' st' sb=> ?_
  have I1:Inv X pins σ H {s with heap:=h'}:=I.turned (t' :=s.toks) (fun b o hb e=>(sb.2 b hb).trans e) f0 f1 f3 f4 f5;obtain⟨o,e,c,d⟩:=id st';exact⟨u,rfl,Dd (s:={s with heap:=h'}) e c d (by decide) ⟨x,H,I1,ru,⟨rfl,fun ys hy=>by rw[I.list_inj hy hq];exact hx⟩,st',fun b hb=>(hf b hb).1⟩⟩
 done:=by
  intro X hP hw hK hc i pins s σ H E I hf st hg;subst hP hw hK;obtain⟨xs,hq,hx⟩:=hg;obtain⟨its,rv,p,hz⟩:=I.list hq;obtain⟨f0,f1,f2,f3,f4,f5⟩:=hf it (by simp)
  have hl:=rv.length;exact wpAny_pyNext_list_end (I.ok.hd hc) st p.isList (by simp;omega) fun h' eb=>⟨rfl,I.turned (t' :=s.toks) (fun b o hb e=>eb b o hb e) f0 f1 f3 f4 f5⟩
 self:=fun _ _ _ _ _ st h=>wpAny_pyIter_listiter st h
theorem VF{P:Program}{w:World}{K:W.Frag}{tg:Expr}(a it:Addr):Turn P w K tg (vR K a) [it] it (fun i h=>h.IsTupleIter it a i) where
 mem:=by simp
 obj:=fun i h st b hb=>by
  have e:b=it:=by simpa using hb
  subst e;obtain⟨o,e,c,d⟩:=st;exact⟨o,e,fun v z=>by rw[d] at z;cases z⟩
 keep:=fun i h h' st k=>st.at fun o e=>k it (by simp) o e
 item:=by
  intro X hP hw hK hc i pins s σ H E I hf st hg;subst hP hw hK;obtain⟨xs,x,hq,hx⟩:=hg;obtain⟨its,rv,p,hz⟩:=I.tuple hq;obtain⟨u,hu,ru⟩:=rv.get hx;obtain⟨f0,f1,f2,f3,f4,f5⟩:=hf it (by simp)
  refine wpAny_pyNext_tuple_item st (show s.heap.IsTuple a its.toArray from p) (x:=u) (by simpa using hu) fun h' st' sb=> ?_
  have I1:Inv X pins σ H {s with heap:=h'}:=I.turned (t' :=s.toks) (fun b o hb e=>(sb.2 b hb).trans e) f0 f1 f3 f4 f5;obtain⟨o,e,c,d⟩:=id st';exact⟨u,rfl,Dd (s:={s with heap:=h'}) e c d (by decide) ⟨x,H,I1,ru,⟨rfl,fun ys hy=>by rw[I.tuple_inj hy hq];exact hx⟩,st',fun b hb=>(hf b hb).1⟩⟩
 done:=by
  intro X hP hw hK hc i pins s σ H E I hf st hg;subst hP hw hK;obtain⟨xs,hq,hx⟩:=hg;obtain⟨its,rv,p,hz⟩:=I.tuple hq;obtain⟨f0,f1,f2,f3,f4,f5⟩:=hf it (by simp)
  have hl:=rv.length;exact wpAny_pyNext_tuple_end (I.ok.hd hc) st (show s.heap.IsTuple a its.toArray from p) (by simp;omega) fun h' eb=>⟨rfl,I.turned (t' :=s.toks) (fun b o hb e=>eb b o hb e) f0 f1 f3 f4 f5⟩
 self:=fun _ _ _ _ _ st h=>wpAny_pyIter_tupleiter st h
theorem zq7{P:Program}{w:World}{K:W.Frag}{tg:Expr}(it:Addr)(lo:Int)(n:Nat):Turn P w K tg (uf lo n) [it] it (fun i h=>IsRangeIter h it (lo+ (i:Nat)*1) ((n:Int) - (i:Nat)) 1) where
 mem:=by simp
 obj:=fun i h st b hb=>by
  have e:b=it:=by simpa using hb
  subst e;exact⟨_,st,fun v z=>by
   have z' :Data.fields _=Data.cell v:=z;cases z'⟩
 keep:=fun i h h' st k=>k it (by simp) _ st
 item:=by
  intro X hP hw hK hc i pins s σ H E I hf st hg;subst hP hw hK;obtain⟨f0,f1,f2,f3,f4,f5⟩:=hf it (by simp)
  have W:=Walks.range (prog:=X.prog) (w:=X.w) (I.ok.hd hc) it lo 1 n;refine W.item i s _ _ hg st fun v h' tk hv st' kk=> ?_;obtain⟨t,rfl⟩:=hv;have I1:Inv X pins σ H {s with heap:=h',toks:=tk}:=I.turned (fun b o hb e=>kk b o (by simpa using hb) e) f0 f1 f3 f4 f5
  refine⟨_,rfl,Dd (s:={s with heap:=h',toks:=tk}) (n:= "range_iterator") st' rfl rfl (by decide) ⟨.int (lo+i),H,I1,⟨t,?_⟩,⟨rfl,rfl⟩,st',fun b hb=>(hf b hb).1⟩⟩
  rw[Int.mul_one]
 done:=by
  intro X hP hw hK hc i pins s σ H E I hf st hg;subst hP hw hK;obtain⟨f0,f1,f2,f3,f4,f5⟩:=hf it (by simp)
  exact wpAny_pyNext_range_end (I.ok.hd hc) st (by have:n<=i:=hg;omega) fun h' eb=>⟨rfl,I.turned (t' :=s.toks) (fun b o hb e=>eb b o hb e) f0 f1 f3 f4 f5⟩
 self:=fun _ _ _ _ _ st h=>wpAny_pyIter_rangeiter st h
section
variable{X:Cx}{tg:Expr}
def VG(K:W.Frag)(tl:TE):TI:=fun σ H R=>tl σ H fun x H1=>∃a,x= .ref a/\ (∃xs,fL K H1 a xs)/\R (xJ K a) H1
def aal(K:W.Frag)(tl:TE):TI:=fun σ H R=>tl σ H fun x H1=>∃a,x= .ref a/\ (∃xs,iQ K H1 a xs)/\R (vR K a) H1
theorem VH{pins:bA}{σ:St}{H:Hp}{s:Shared}{R:It ->Hp ->Prop}{E:bH}{lo hi:Int}{t u v:Tok}{tk:Nat}(I:Inv X pins σ H s)(h1: -(2^62)<=lo)(h2:lo<2^62)(h3: -(2^62)<=hi)(h4:hi<2^62)
  (q:R (uf lo (hi - lo).toNat) H):wpAny (model X.prog X.w) X.A (pyIter (.ref s.heap.objs.size)) (PIE X pins σ tg R) E {s with heap:=s.heap.push {cls:= .type "range",data:= .fields #[.int lo t,.int hi u,.int 1 v]},toks:=tk}:=by
 refine wpAny_pyIter_range (IsRange.new ..) (small_one h1 h2 h3 h4) ?_;have I1:Inv X pins σ H {s with heap:=s.heap.push {cls:= .type "range",data:= .fields #[.int lo t,.int hi u,.int 1 v]},toks:=tk}:=I.kept fun b o e=>z8 _ e;refine⟨(s.heap.push {cls:= .type "range",data:= .fields #[.int lo t,.int hi u,.int 1 v]}).objs.size,[(s.heap.push {cls:= .type "range",data:= .fields #[.int lo t,.int hi u,.int 1 v]}).objs.size],_,_,H,rfl,
  I1.kept (t' :=tk) fun b o e=>z8 _ e,zq7 _ lo (hi - lo).toNat,?_,fun b hb=> ?_,q⟩
 ·have e1:lo+ ((0:Nat):Int)*1=lo:=by simp
  have e2:(((hi - lo).toNat:Nat):Int) - ((0:Nat):Int)=Builtin.Range.rangeSize lo hi 1:=by rw[rangeSize_one];split<;>omega
  show IsRangeIter _ _ (lo+ ((0:Nat):Int)*1) ((((hi - lo).toNat:Nat):Int) - ((0:Nat):Int)) 1;rw[e1,e2];exact z9 _ rfl
 ·have e:b=(s.heap.push {cls:= .type "range",data:= .fields #[.int lo t,.int hi u,.int 1 v]}).objs.size:=by simpa using hb
  subst e;exact I1.fpOk (zO _) (I1.hok.fresh (zO _))
def Df(ta:TA):TI:=fun σ H R=>ta σ H fun vs H1=>∃j:Int,vs= [.int j]/\ -(2^62)<=j/\j<2^62/\R (uf 0 j.toNat) H1
def Dg(ta:TA):TI:=fun σ H R=>ta σ H fun vs H1=>∃i j:Int,vs= [.int i,.int j]/\ (-(2^62)<=i/\i<2^62/\ -(2^62)<=j/\j<2^62)/\R (uf i (j - i).toNat) H1
theorem ztq{a:Expr}{ta:TA}{p pos:Pos}(hg:Gl X "range")(hm:X.mg "range" =none)(ha:PA X [a] ta)(hs:starEach [a] X.env= [(false,eval a X.env)]:=by rfl):PI X tg (.Call (.Name "range" p) [a] [] pos) (Df ta):=by
 intro pins s σ H R I h;refine Call_ (vP I hg hm boot_range (PyProof.Rows.callWith_type1 (bD (ha pos pins s σ H _ I h) fun us s1 ⟨vs,H1,I1,r1,q1⟩=> ?_) hs rfl));obtain⟨j,e,q1,q2,q⟩:=q1;subst e;cases r1 with
 | cons r rr=>
  cases rr;obtain⟨t,rfl⟩:=r;exact call_range_1 (VH I1 (by omega) (by omega) q1 q2 (by simpa using q))
theorem ztb{a b:Expr}{ta:TA}{p pos:Pos}(hg:Gl X "range")(hm:X.mg "range" =none)(ha:PA X [a,b] ta)(hs:starEach [a,b] X.env= [(false,eval a X.env),(false,eval b X.env)]:=by rfl)(hs2:starEach [b] X.env= [(false,eval b X.env)]:=by rfl):
  PI X tg (.Call (.Name "range" p) [a,b] [] pos) (Dg ta):=by
 intro pins s σ H R I h;refine Call_ (vP I hg hm boot_range (PyProof.Rows.callWith_type1 (bD (ha pos pins s σ H _ I h) fun us s1 ⟨vs,H1,I1,r1,q1⟩=> ?_) (by rw[hs,hs2]) (by rw[hs2];rfl)))
 obtain⟨i,j,e,⟨q1,q2,q3,q4⟩,q⟩:=q1;subst e;cases r1 with
 | cons r rr=>
  cases rr with
  | cons r' rr=>
   cases rr;obtain⟨t,rfl⟩:=r;obtain⟨t',rfl⟩:=r';exact call_range_2 (VH I1 q1 q2 q3 q4 q)
def Mr(wi:TI)(g:TG)(tb:TS):TS:=fun D σ H=>wi σ H fun J H1=>∃W:Nat ->Nat ->St ->Hp ->Prop,(∃m,W 0 m σ H1)/\∀i m σ H,W i m σ H ->
 (J.stop i H/\D.nx σ H)\/ (J.go i H/\∃N:St ->Hp ->Prop,(∀σ' H',N σ' H' ->∃m',m' <m/\W (i+1) m' σ' H')/\∀x H',J.yld i H x H' ->g x σ H' fun σ2 H2=>tb {D with nx:=N,ct:=N,bk:=D.nx} σ2 H2)
def jX(fp:List Addr)(h:Heap):bA:=fp.filterMap fun b=>(h.get? b).map fun o=>(b,o)
theorem Jc{fp:List Addr}{h:Heap}{b:Addr}{o:Obj}(hb:b∈fp)(e:h.get? b=some o):(b,o)∈jX fp h:=List.mem_filterMap.mpr ⟨b,hb,by rw[e];rfl⟩
theorem ztm{fp:List Addr}{h:Heap}{p:Addr×Obj}(hp:p∈jX fp h):p.1∈fp/\h.get? p.1=some p.2:=by
 obtain⟨b,hb,e⟩:=List.mem_filterMap.mp hp;cases q:h.get? b with
 | none=>rw[q] at e;cases e
 | some o=>
  rw[q] at e;have e' :(b,o)=p:=zH e;subst e';exact⟨hb,q⟩
theorem Inv.pinned{pins:bA}{σ:St}{H:Hp}{s:Shared}{fp:List Addr}(I:Inv X pins σ H s)(hf:∀b∈fp,gb X pins H b)(ho:∀b∈fp,∃o,s.heap.get? b=some o/\∀v,o.data≠ .cell v):Inv X (pins++jX fp s.heap) σ H s:=
 I.pins_of fun p hp=>(zU.mp hp).elim (fun z=>I.pin p (zR _ z)) fun z=>by
  obtain⟨hb,e⟩:=ztm z;obtain⟨f0,f1,f2,_⟩:=hf p.1 hb;obtain⟨o,e',d⟩:=ho p.1 hb;rw[e] at e';cases e';exact⟨e,f0,f1,f2,d⟩
theorem Inv.unpinned{pins pl:bA}{σ:St}{H:Hp}{s:Shared}(I:Inv X (pins++pl) σ H s):Inv X pins σ H s:=I.pins_of fun p hp=>I.pin p (zR _ (zQ _ hp))
theorem Dh{iter:Expr}{body:List Stmt}{wi:TI}{g:TG}{tb:TS}{pos:Pos}(hp:PassesOwn (model X.prog X.w) X.A X.env X.xe)(hc:X.calm=true)(hi:PI X tg iter wi)(hg:PG X tg g)(hb:rB X body tb)
  (hs:∀x,foldedSetIterable iter X.env x=pure x:=by intro _;rfl):PS X (.For tg iter body [] pos) (Mr wi g tb):=by
 intro pins s σ H D I h;refine wpAny_For (bD (hi pins s σ H _ I h) fun v s1 h1=>bD h1 fun itv s2 h2=> ?_) hs;obtain⟨it,fp,tn,J,H2,e,I2,T,st2,f2,W,⟨m0,w0⟩,turn⟩:=h2;subst e
 
 have stat:∀{H' :Hp},(∀b∈fp,H' b=none) ->∀b∈fp,gb X pins H' b:=fun hn b hb=>⟨hn b hb,(f2 b hb).2⟩;refine codeAny_forLoop_any (fun n s' =>∃i σ' H',Inv X pins σ' H' s' /\tn i s'.heap/\ (∀b∈fp,H' b=none)/\W i n σ' H') ?_ m0 ⟨0,σ,H2,I2,st2,fun b hb=>(f2 b hb).1,w0⟩;rintro n s3 ⟨i,σ3,H3,I3,st3,VJ,w3⟩;rcases turn i n σ3 H3 w3 with ⟨stop,qn⟩ | ⟨go,N,hN,step⟩
 ·refine wpAny_passesOwn hp (bD (T.done X rfl rfl rfl hc i pins s3 σ3 H3 X.xe I3 (stat VJ) st3 stop) fun r s4 ⟨hr,I4⟩=> ?_);subst hr;exact wpAny_execs_nil ⟨σ3,H3,I4,qn⟩
 ·refine wpAny_passesOwn hp (bD (T.item X rfl rfl rfl hc i pins s3 σ3 H3 X.xe I3 (stat VJ) st3 go) fun r s4 ⟨u,hr,h4⟩=> ?_);subst hr;refine wpAny_passesOwn hp (bD h4 fun _ s5 Ms=> ?_);obtain⟨x,H5,I5,r5,y5,Ag,Jd⟩:=Ms;have Mt :=I5.pinned (stat Jd) (T.obj _ _ Ag);refine wpAny_passesOwn hp (bD (hg _ s5 σ3 H5 x u _ Mt r5 (step x H5 y5)) fun _ s6 ⟨σ6,H6,I6,q6⟩=> ?_);refine wpAny_passesOwn hp (bD (hb _ s6 σ6 H6 _ I6 q6) fun f s7 q7=> ?_);have again:∀{σ7:St} {H7:Hp},Inv X (pins++jX fp s5.heap) σ7 H7 s7 ->N σ7 H7 ->∃m,m<n/\∃i σ' H',Inv X pins σ' H' s7/\tn i s7.heap/\ (∀b∈fp,H' b=none)/\W i m σ' H' :=fun{σ7 H7} I7 n7=>by
   obtain⟨m',hm,w7⟩:=hN σ7 H7 n7;refine⟨m',hm,i+1,σ7,H7,I7.unpinned,T.keep _ _ _ Ag fun b hb o e=>(I7.pin (b,o) (zR _ (zR _ (Jc hb e)))).1,fun b hb=> ?_,w7⟩;obtain⟨o,e,d⟩:=T.obj _ _ Ag b hb;exact(I7.pin (b,o) (zR _ (zR _ (Jc hb e)))).2.1
  cases f with
  | next=>obtain⟨σ7,H7,I7,n7⟩:=q7;exact again I7 n7
  | cont=>obtain⟨σ7,H7,I7,n7⟩:=q7;exact again I7 n7
  | brk=>obtain⟨σ7,H7,I7,q7⟩:=q7;exact⟨σ7,H7,I7.unpinned,q7⟩
  | ret v=>obtain⟨x7,σ7,H7,I7,r7,q7⟩:=q7;exact⟨x7,σ7,H7,I7.unpinned,r7,q7⟩
end
theorem VL{K:W.Frag}{a:Addr}{xs:List V}{g:TG}{tb:TS}{D:Ends}{σ:St}{H:Hp}(Pv:Nat ->St ->Hp ->Prop)(h0:Pv 0 σ H)(hl:∀i σ H,i<=xs.length ->Pv i σ H ->fL K H a xs)
  (hs:∀i x σ H,xs[i]?=some x ->Pv i σ H ->g x σ H fun σ2 H2=>tb {D with nx:=Pv (i+1),ct:=Pv (i+1),bk:=D.nx} σ2 H2) (hd:∀σ H,Pv xs.length σ H ->D.nx σ H):
  ∃W:Nat ->Nat ->St ->Hp ->Prop,(∃m,W 0 m σ H)/\∀i m σ H,W i m σ H ->
   ((xJ K a).stop i H/\D.nx σ H)\/ ((xJ K a).go i H/\∃N:St ->Hp ->Prop,(∀σ' H',N σ' H' ->∃m',m' <m/\W (i+1) m' σ' H')/\∀x H',(xJ K a).yld i H x H' ->g x σ H' fun σ2 H2=>tb {D with nx:=N,ct:=N,bk:=D.nx} σ2 H2):=by
 refine⟨fun i m σ H=>m=xs.length - i/\i<=xs.length/\Pv i σ H,⟨xs.length,by simp,Nat.zero_le _,h0⟩,?_⟩
 rintro i m σ H ⟨rfl,hi,p⟩;have q:=hl i σ H hi p;by_cases hlt:i<xs.length
 ·refine .inr ⟨⟨xs,xs[i],q,by simp [hlt]⟩,Pv (i+1),fun σ' H' p' =>⟨xs.length - (i+1),by omega,rfl,hlt,p'⟩,fun x H' y=> ?_⟩
  obtain⟨e,y⟩:=y;subst e;exact hs i x σ _ (y xs q) p
 ·have e:i=xs.length:=by omega
  subst e;exact .inl ⟨⟨xs,q,zO _⟩,hd σ H p⟩
theorem z2i{K:W.Frag}{a:Addr}{xs:List V}{g:TG}{tb:TS}{D:Ends}{σ:St}{H:Hp}(Pv:Nat ->St ->Hp ->Prop)(h0:Pv 0 σ H)(hl:∀i σ H,i<=xs.length ->Pv i σ H ->iQ K H a xs)
  (hs:∀i x σ H,xs[i]?=some x ->Pv i σ H ->g x σ H fun σ2 H2=>tb {D with nx:=Pv (i+1),ct:=Pv (i+1),bk:=D.nx} σ2 H2) (hd:∀σ H,Pv xs.length σ H ->D.nx σ H):
  ∃W:Nat ->Nat ->St ->Hp ->Prop,(∃m,W 0 m σ H)/\∀i m σ H,W i m σ H ->
   ((vR K a).stop i H/\D.nx σ H)\/ ((vR K a).go i H/\∃N:St ->Hp ->Prop,(∀σ' H',N σ' H' ->∃m',m' <m/\W (i+1) m' σ' H')/\∀x H',(vR K a).yld i H x H' ->g x σ H' fun σ2 H2=>tb {D with nx:=N,ct:=N,bk:=D.nx} σ2 H2):=by
 refine⟨fun i m σ H=>m=xs.length - i/\i<=xs.length/\Pv i σ H,⟨xs.length,by simp,Nat.zero_le _,h0⟩,?_⟩
 rintro i m σ H ⟨rfl,hi,p⟩;have q:=hl i σ H hi p;by_cases hlt:i<xs.length
 ·refine .inr ⟨⟨xs,xs[i],q,by simp [hlt]⟩,Pv (i+1),fun σ' H' p' =>⟨xs.length - (i+1),by omega,rfl,hlt,p'⟩,fun x H' y=> ?_⟩
  obtain⟨e,y⟩:=y;subst e;exact hs i x σ _ (y xs q) p
 ·have e:i=xs.length:=by omega
  subst e;exact .inl ⟨⟨xs,q,zO _⟩,hd σ H p⟩
theorem zu1{lo:Int}{n:Nat}{g:TG}{tb:TS}{D:Ends}{σ:St}{H:Hp}(Pv:Nat ->St ->Hp ->Prop)(h0:Pv 0 σ H)
  (hs:∀i σ H,i<n ->Pv i σ H ->g (.int (lo+i)) σ H fun σ2 H2=>tb {D with nx:=Pv (i+1),ct:=Pv (i+1),bk:=D.nx} σ2 H2) (hd:∀σ H,Pv n σ H ->D.nx σ H):
  ∃W:Nat ->Nat ->St ->Hp ->Prop,(∃m,W 0 m σ H)/\∀i m σ H,W i m σ H ->
   ((uf lo n).stop i H/\D.nx σ H)\/ ((uf lo n).go i H/\∃N:St ->Hp ->Prop,(∀σ' H',N σ' H' ->∃m',m' <m/\W (i+1) m' σ' H')/\∀x H',(uf lo n).yld i H x H' ->g x σ H' fun σ2 H2=>tb {D with nx:=N,ct:=N,bk:=D.nx} σ2 H2):=by
 refine⟨fun i m σ H=>m=n - i/\i<=n/\Pv i σ H,⟨n,by simp,Nat.zero_le _,h0⟩,?_⟩
 rintro i m σ H ⟨rfl,hi,p⟩;by_cases hlt:i<n
 ·refine .inr ⟨hlt,Pv (i+1),fun σ' H' p' =>⟨n - (i+1),by omega,rfl,hlt,p'⟩,fun x H' y=> ?_⟩
  obtain⟨e,y⟩:=y;subst e y;exact hs i σ _ hlt p
 ·have e:i=n:=by omega
  subst e;exact .inl ⟨zO _,hd σ H p⟩
abbrev R2:=V ->V ->Hp ->VK ->Prop
def gU(X:Cx)(f:Value ->Value ->Sem Value)(r:R2):Prop:=
 ∀(pins:bA) (s:Shared) (σ:St) (H:Hp) (x y:V) (v u:Value) (Q:VK),Inv X pins σ H s ->RelV x v ->RelV y u ->r x y H Q ->
  wpAny (model X.prog X.w) X.A (f v u) (EP X pins σ Q) X.xe s
def Mu(X:Cx)(f:Value ->Sem Value)(r:V ->Hp ->VK ->Prop):Prop:=
 ∀(pins:bA) (s:Shared) (σ:St) (H:Hp) (x:V) (v:Value) (Q:VK),Inv X pins σ H s ->RelV x v ->r x H Q ->
  wpAny (model X.prog X.w) X.A (f v) (EP X pins σ Q) X.xe s
def cg(X:Cx)(f:Value)(r:List V ->Hp ->VK ->Prop):Prop:=
 ∀(pins:bA) (s:Shared) (σ:St) (H:Hp) (xs:List V) (us:List Value) (Q:VK),Inv X pins σ H s ->Vals xs us ->r xs H Q ->
  wpAny (model X.prog X.w) X.A (call f us) (EP X pins σ Q) X.xe s
def aam(X:Cx)(r:V ->Hp ->(Bool ->Hp ->Prop) ->Prop):Prop:=
 ∀(pins:bA) (s:Shared) (σ:St) (H:Hp) (x:V) (v:Value) (Q:Bool ->Hp ->Prop),Inv X pins σ H s ->RelV x v ->r x H Q ->
  wpAny (model X.prog X.w) X.A (truthy v) (TP X pins σ Q) X.xe s
def Di(r:R2)(ta tb:TE):TE:=fun σ H Q=>ta σ H fun x H1=>tb σ H1 fun y H2=>r x y H2 Q
def tUn(r:V ->Hp ->VK ->Prop)(ta:TE):TE:=fun σ H Q=>ta σ H fun x H1=>r x H1 Q
def rI(C:Int ->Int ->Prop)(g:Int ->Int ->V):R2:=fun x y H Q=>∃i j,x= .int i/\y= .int j/\C i j/\Q (g i j) H
def xK(g:Int ->Int ->V):R2:=fun x y H Q=>∃i j,x= .int i/\y= .int j/\Q (g i j) H
def rU(g:Int ->V):V ->Hp ->VK ->Prop:=fun x H Q=>∃i,x= .int i/\Q (g i) H
section
variable{X:Cx}{a b c:Expr}{ta tb tc:TE}{pos:Pos}
theorem xM(ha:PE X a ta)(hb:PE X b tb){pins:bA}{s:Shared}{σ:St}{H:Hp}{R:V ->V ->Hp ->Prop}(I:Inv X pins σ H s)
  (h:ta σ H fun x H1=>tb σ H1 fun y H2=>R x y H2) {Q:bH} {f:Value ->Value ->Sem Value}
  (hf:∀v u s2 x y H2,Inv X pins σ H2 s2 ->RelV x v ->RelV y u ->R x y H2 ->wpAny (model X.prog X.w) X.A (f v u) Q X.xe s2):
  wpAny (model X.prog X.w) X.A (eval a X.env) (fun v s₁=>wpAny (model X.prog X.w) X.A (eval b X.env) (fun u s₂=>wpAny (model X.prog X.w) X.A (f v u) Q X.xe s₂) X.xe s₁) X.xe s:=by
 refine bD (ha pins s σ H _ I h) fun v s1 Mv=> ?_;obtain⟨x,H1,I1,r1,q1⟩:=Mv;refine bD (hb pins s1 σ H1 _ I1 q1) fun u s2 Mw=> ?_;obtain⟨y,H2,I2,r2,q2⟩:=Mw;exact hf v u s2 x y H2 I2 r1 r2 q2
theorem VN{op:Operator}{r:R2}(ho:gU X (binaryOp op) r)(ha:PE X a ta)(hb:PE X b tb):PE X (.BinOp a op b pos) (Di r ta tb):=by
 intro pins s σ H Q I h;exact wpAny_BinOp (xM ha hb I h fun v u s2 x y H2 I2 rx ry q=>ho pins s2 σ H2 x y v u Q I2 rx ry q)
theorem z5f{op:UnaryOp}{r:V ->Hp ->VK ->Prop}(ho:Mu X (unaryOp op) r)(ha:PE X a ta):PE X (.UnaryOp op a pos) (tUn r ta):=by
 intro pins s σ H Q I h;exact UnaryOp_ (bD (ha pins s σ H _ I h) fun v s1 Mz=>by obtain⟨x,H1,I1,r1,q1⟩:=Mz;exact ho pins s1 σ H1 x v Q I1 r1 q1)
theorem Je{f:Value ->Value ->Sem Value}{C:Int ->Int ->Prop}{g:Int ->Int ->Int}
  (rule:∀(i j:Int) (t u:Tok) (s:Shared) (Q:bH) (E:bH),C i j ->Q (.int (g i j) s.toks) {s with toks:=s.toks+1} ->wpAny (model X.prog X.w) X.A (f (.int i t) (.int j u)) Q E s):
  gU X f (rI C fun i j=> .int (g i j)):=by
 intro pins s σ H x y v u Q I rx ry h;obtain⟨i,j,rfl,rfl,hc,q⟩:=h;obtain⟨t,rfl⟩:=rx;obtain⟨t',rfl⟩:=ry;exact rule i j t t' s _ _ hc ⟨.int (g i j),H,I.tok _,⟨_,rfl⟩,q⟩
theorem Dj{f:Value ->Value ->Sem Value}{g:Int ->Int ->Int}
  (rule:∀(i j:Int) (t u:Tok) (s:Shared) (Q:bH) (E:bH),Q (.int (g i j) s.toks) {s with toks:=s.toks+1} ->wpAny (model X.prog X.w) X.A (f (.int i t) (.int j u)) Q E s):
  gU X f (xK fun i j=> .int (g i j)):=by
 intro pins s σ H x y v u Q I rx ry h;obtain⟨i,j,rfl,rfl,q⟩:=h;obtain⟨t,rfl⟩:=rx;obtain⟨t',rfl⟩:=ry;exact rule i j t t' s _ _ ⟨.int (g i j),H,I.tok _,⟨_,rfl⟩,q⟩
theorem Dl{f:Value ->Value ->Sem Value}{g:Int ->Int ->Bool}
  (rule:∀(i j:Int) (t u:Tok) (s:Shared) (Q:bH) (E:bH),Q (.bool (g i j)) s ->wpAny (model X.prog X.w) X.A (f (.int i t) (.int j u)) Q E s):
  gU X f (xK fun i j=> .bl (g i j)):=by
 intro pins s σ H x y v u Q I rx ry h;obtain⟨i,j,rfl,rfl,q⟩:=h;obtain⟨t,rfl⟩:=rx;obtain⟨t',rfl⟩:=ry;exact rule i j t t' s _ _ ⟨.bl (g i j),H,I,rfl,q⟩
def aan(i j:Int):Prop:=0<j/\j<1073741824
def VP(i j:Int):Prop:=j≠0/\j.natAbs<1073741824
def uP(i j:Int):Prop:=0<=j/\j<=1000000/\i.natAbs<2^64
def aao(i j:Int):Prop:=(-(2^64)<i/\i<2^64)\/ (-(2^64)<j/\j<2^64)
theorem z3e:gU X (binaryOp .Add) (xK fun i j=> .int (i+j)):=Dj fun _ _ _ _ _ _ _ q=>add_int q
theorem z4x:gU X (binaryOp .Sub) (xK fun i j=> .int (i - j)):=Dj fun _ _ _ _ _ _ _ q=>sub_int q
theorem z1q:gU X (binaryOp .Mod) (rI (fun _ j=>j≠0) fun i j=> .int (i.fmod j)):=Je fun _ _ _ _ _ _ _ hc q=>mod_int' hc q
theorem z4g:gU X (binaryOp .Pow) (rI uP fun i j=> .int (i^j.toNat)):=Je fun _ _ _ _ _ _ _ hc q=>pow_int_small hc.1 hc.2.1 hc.2.2 q
theorem unI{f:Value ->Sem Value}{g:Int ->Int}
  (rule:∀(i:Int) (t:Tok) (s:Shared) (Q:bH) (E:bH),Q (.int (g i) s.toks) {s with toks:=s.toks+1} ->wpAny (model X.prog X.w) X.A (f (.int i t)) Q E s):
  Mu X f (rU fun i=> .int (g i)):=by
 intro pins s σ H x v Q I rx h;obtain⟨i,rfl,q⟩:=h;obtain⟨t,rfl⟩:=rx;exact rule i t s _ _ ⟨.int (g i),H,I.tok _,⟨_,rfl⟩,q⟩
theorem z38:Mu X (unaryOp .USub) (rU fun i=> .int (-i)):=unI fun _ _ _ _ _ q=>neg_int q
end
def Dm:V ->V ->Bool
 | .non,.non=>true | .non,.int _=>true | .int _,.non=>true | .non,.bl _=>true | .bl _,.non=>true | .non,.str _=>true | .str _,.non=>true
 | .int _,.int _=>true | .bl _,.bl _=>true | .str _,.str _=>true | .wZ _,.wZ _=>true
 | .int _,.str _=>true | .str _,.int _=>true | .bl _,.str _=>true | .str _,.bl _=>true
 | _,_=>false
def rEq:R2:=fun x y H Q=>Dm x y=true/\Q (.bl (decide (x=y))) H
def rNe:R2:=fun x y H Q=>Dm x y=true/\Q (.bl (!decide (x=y))) H
section
variable{X:Cx}{a b c:Expr}{ta tb tc:TE}{pos:Pos}
theorem z5i:gU X (compareOp .Lt) (xK fun i j=> .bl (decide (i<j))):=Dl fun _ _ _ _ _ _ _ q=>lt_int q
theorem z5s:gU X (compareOp .Gt) (xK fun i j=> .bl (decide (j<i))):=Dl fun _ _ _ _ _ _ _ q=>gt_int q
def isObj:HO ->Bool
 | .lst _=>true
 | .ins _ _ _=>true
 | _=>false
theorem aX(b:Expr){op:CmpOp}(h:op≠ .In:=by decide)(h2:op≠ .NotIn:=by decide):behindInMarks op b=false:=by
 have e1:(op==CmpOp.In)=false:=by cases op<;>first | rfl | exact absurd rfl h
 have e2:(op==CmpOp.NotIn)=false:=by cases op<;>first | rfl | exact absurd rfl h2
 cases b<;>simp [behindInMarks,e1,e2]
theorem zz2{op:CmpOp}{r:R2}(ho:gU X (compareOp op) r)(ha:PE X a ta)(hb:PE X b tb)(hm:behindInMarks op b=false):PE X (.Compare a [op] [b] pos) (Di r ta tb):=by
 intro pins s σ H Q I h;exact wpAny_Compare1 (xM ha hb I h fun v u s2 x y H2 I2 rx ry q=>ho pins s2 σ H2 x y v u Q I2 rx ry q) hm
def Dp(t:TE):TT:=fun σ H Q=>t σ H fun x H' =>∃k,x= .bl k/\Q k H'
theorem z1n{op:CmpOp}{r:R2}(ho:gU X (compareOp op) r)(ha:PE X a ta)(hb:PE X b tb)(hm:behindInMarks op b=false):PT X (.Compare a [op] [b] pos) (Dp (Di r ta tb)):=by
 intro pins s σ H Q I h;refine wpAny_isTrue_Compare1 (bD (ha pins s σ H _ I h) fun v s1 ⟨x,H1,I1,r1,q1⟩=>bD (hb pins s1 σ H1 _ I1 q1) fun u s2 ⟨y,H2,I2,r2,q2⟩=>
  bD (ho pins s2 σ H2 x y v u _ I2 r1 r2 q2) fun c s3 ⟨z,H3,I3,r3,k,e,q3⟩=> ?_) hm
 subst e;cases r3;exact wpAny_truthy_bool ⟨H3,I3,q3⟩
def MF(r r' :R2)(ta tb tc:TE):TE:=fun σ H Q=>ta σ H fun x H1=>tb σ H1 fun y H2=>r x y H2 fun z H3=>∃k,z= .bl k/\
 (if k=true then tc σ H3 fun w' H4=>r' y w' H4 Q else Q (.bl false) H3)
def aap(K:W.Frag)(x:V)(H:Hp)(k:Bool):Prop:=
 match x with
 | .non=>k=false
 | .bl b=>k=b
 | .int i=>k=(i !=0)
 | .str y=>y.length<=sizeLine/\k=((y.length:Int) !=0)
 | .wZ y=>y.size<=sizeLine/\k=((y.size:Int) !=0)
 | .ref p=>(∃xs,fL K H p xs/\k= !xs.isEmpty)\/ (∃xs,iQ K H p xs/\k= !xs.isEmpty)\/∃kvs,H p=some (.dK kvs)/\k= !kvs.isEmpty
 | _=>False
theorem jl:(sizeLine:Nat)<2^63:=by rw[sizeLine_eq];decide
theorem zrv:gU X (binaryOp .Add) (fun x y H Q=>∃i j,x= .str i/\y= .str j/\i.length+j.length<=sizeLine/\Q (.str (i++j)) H):=by
 intro pins s σ H x y v u Q I rx ry h;obtain⟨i,j,rfl,rfl,hz,q⟩:=h;obtain⟨t,rfl⟩:=rx;obtain⟨t',rfl⟩:=ry;exact add_str (fun t' tk=>⟨.str (i++j),H,I.tok _,⟨_,rfl⟩,q⟩) hz
def z5b(b:Expr):Prop:=∀o i,subscripted b false o i=operate [o,i] (getItem o i)
theorem vals1{x:V}{us:List Value}(r:Vals [x] us):∃u,us= [u]/\RelV x u:=by
 cases r with
 | cons r1 r2=>cases r2;exact⟨_,rfl,r1⟩
theorem zwf:cg X (.builtin "abs") (fun xs H Q=>∃i,xs= [.int i]/\Q (.int (if i<0 then -i else i)) H):=by
 intro pins s σ H xs us Q I r h;obtain⟨i,rfl,q⟩:=h;obtain⟨u,rfl,t,rfl⟩:=vals1 r;exact call_abs_int fun u tk=>⟨.int (if i<0 then -i else i),H,I.tok _,⟨_,rfl⟩,q⟩
def aaq(K:W.Frag)(x:V)(H:Hp)(n:Nat):Prop:=
 match x with
 | .str y=>y.length<=sizeLine/\n=y.length
 | .wZ y=>y.size<=sizeLine/\n=y.size
 | .ref p=>(∃xs,fL K H p xs/\n=xs.length)\/∃xs,iQ K H p xs/\n=xs.length
 | _=>False
end
structure aar (h:Heap) (x dx C:Addr) (mA:Str ->Option Value):Prop where
 obj:h.get? x=some (W.instObj C dx)
 ns:h.Ns1 dx mA
 ne:dx≠x
section
variable{prog:Program}{w:World}{A:Around}{E:bH}{s:Shared}{K:W.Frag}{x dx C f:Addr}{mA:Str ->Option Value}{name:Str}{v:Value}
end
def xO(f:Str)(v:V):List (Str×V) ->List (Str×V)
 | []=> [(f,v)]
 | (g,x)::r=>if g=f then(g,v)::r else(g,x)::xO f v r
theorem jk.some_of{v:V}{o:Option Value}(r:jk (some v) o):∃u,o=some u/\RelV v u:=by
 cases o with
 | none=>exact(show False from r).elim
 | some u=>exact⟨u,rfl,r⟩
section
variable{P:Program}{w:World}{H H' :Hp}{h h' :Heap}{a C dx:Addr}{fs fs' :List (Str×V)}
end
structure Cls (K:W.Frag) (C:Addr):Prop where
 pg:W.plainGet K C Str.empty=true
 hd:W.hasDictIn K C=true
 po:W.plainOver K C=true
 sa:W.findIn K (.ref C) "__setattr__" =some (some (.builtin "object.__setattr__"))
def o8(K:W.Frag)(C:Addr)(f:Str):Prop:=W.findIn K (.ref C) f=some none
structure Con (K:W.Frag) (C:Addr) (f:Str) (v:V) (u:Value):Prop where
 at_:W.findIn K (.ref C) f=some (some u)
 rel:RelV v u
 get:W.specialIn K u "__get__" =some none
 cp:W.copiedNames.contains f=false
structure Meth (K:W.Frag) (C:Addr) (m:Str) (f:Addr):Prop where
 at_:W.findIn K (.ref C) m=some (some (.ref f))
 fn:W.isFn K (.ref f)=true
 kp:W.keepIn K (.ref f)=true
section
variable{X:Cx}{pins:bA}{σ:St}{H:Hp}{s:Shared}{a C dx:Addr}{fs:List (Str×V)}{f:Str}{v:V}{A:Around}{E:bH}
end
def aas(K:W.Frag)(ta:TE)(f:Str):TE:=fun σ H Q=>ta σ H fun x H1=>∃a C dx fs v,x= .ref a/\H1 a=some (.ins C dx fs)/\Cls K C/\o8 K C f/\fs.lookup f=some v/\Q v H1
def aat(K:W.Frag)(ta:TE)(f:Str):TE:=fun σ H Q=>ta σ H fun x H1=>∃a C dx fs v u,x= .ref a/\H1 a=some (.ins C dx fs)/\Cls K C/\Con K C f v u/\fs.lookup f=none/\Q v H1
def aau(K:W.Frag)(ta tv:TE)(f:Str):TS:=fun D σ H=>tv σ H fun y H1=>ta σ H1 fun x H2=>∃a C dx fs,x= .ref a/\H2 a=some (.ins C dx fs)/\Cls K C/\o8 K C f/\fs.length<1000/\
 D.nx σ (upd H2 a (.ins C dx (xO f y fs)))
def aav(X:Cx)(op:Operator)(rd:V ->V ->Hp ->VK ->Prop):Prop:=
 ∀(pins:bA) (s:Shared) (σ:St) (H:Hp) (x y:V) (u v:Value) (Q:VK),Inv X pins σ H s ->RelV x u ->RelV y v ->rd x y H Q ->wpAny (model X.prog X.w) X.A (inplaceOp op u v) (EP X pins σ Q) X.xe s
def z5o(K:W.Frag)(ta tv:TE)(rd:V ->V ->Hp ->VK ->Prop)(f:Str):TS:=fun D σ H=>ta σ H fun x H1=>∃a C dx fs v,x= .ref a/\H1 a=some (.ins C dx fs)/\Cls K C/\o8 K C f/\fs.lookup f=some v/\
 tv σ H1 fun y H2=>rd v y H2 fun z H3=>∃VR fs',H3 a=some (.ins C VR fs')/\fs'.length<1000/\D.nx σ (upd H3 a (.ins C VR (xO f z fs')))
section
variable{X:Cx}{o e value:Expr}{f:Str}{pos pos' tpos:Pos}{ta tv:TE}
def aaw:V ->V ->Hp ->VK ->Prop:=fun x y H Q=>∃i j,x= .int i/\y= .int j/\Q (.int (i+j)) H
def aax:V ->V ->Hp ->VK ->Prop:=fun x y H Q=>∃i j,x= .int i/\y= .int j/\Q (.int (i - j)) H
end
section
variable{X:Cx}{pins:bA}{σ:St}{H:Hp}{s:Shared}{A:Around}{E:bH}{Q:bH}{c:Value}{b:Bool}
inductive jY (K:W.Frag) (H:Hp):V ->Value ->Prop where
 | non:jY K H .non (.type "NoneType")
 | bl (x:Bool):jY K H (.bl x) (.type "bool")
 | int (i:Int):jY K H (.int i) (.type "int")
 | str (x:Str):jY K H (.str x) (.type "str")
 | flt (x:UInt64):jY K H (.flt x) (.type "float")
 | lst {a:Addr} {xs:List V} (e:H a=some (.lst xs)):jY K H (.ref a) (.type "list")
 | frz {a:Addr} {o:Obj} {xs:List V} (e:H a=some (.frz o (.lst xs))):jY K H (.ref a) (.type "list")
 | tup {a:Addr} {xs:List V} (e:H a=some (.tup xs)):jY K H (.ref a) (.type "tuple")
 | dK {a:Addr} {kvs:List (Key×V)} (e:H a=some (.dK kvs)):jY K H (.ref a) (.type "dict")
 | dT {a:Addr} {kvs:List (List Key×V)} (e:H a=some (.dT kvs)):jY K H (.ref a) (.type "dict")
 | ins {a C dx:Addr} {fs:List (Str×V)} (e:H a=some (.ins C dx fs)) (cl:Cls K C) (ha:W.findIn K (.ref C) "__class__" =some (some (.builtin "object.__class__")))
   (hn:W.specialIn K (.builtin "object.__class__") "__get__" =some (some (.builtin "getset_descriptor.__get__"))) (htk:W.takesIn K (.builtin "object.__class__")=some true)
   (hm:W.mroIn K C (.type "object")=some true):jY K H (.ref a) (.ref C)
end
structure eN (k:Nat) (A:Around):Prop where
 hd:A.handled=none
 dp:A.depth+3*k+5<recursionLimit
 un:A.units+16*k+200<cLine
theorem eN.mono{j k:Nat}{A:Around}(r:eN k A)(h:j<=k):eN j A:=⟨r.hd,by have:=r.dp;omega,by have:=r.un;omega⟩
theorem eN.deeper{k:Nat}{A:Around}(r:eN (k+1) A)(env:Env):eN k (A.deeper env):=
 ⟨r.hd,by have:=r.dp;show A.depth+1+3*k+5<_;omega,by have:=r.un;show A.units+3+16*k+200<_;omega⟩
theorem eN.depth{k:Nat}{A:Around}(r:eN k A):A.depth<recursionLimit:=by have:=r.dp;omega
theorem eN.units{k:Nat}{A:Around}(r:eN k A):A.units+64<cLine:=by have:=r.un;omega
def MJ:TA:=fun _ H Q=>Q [] H
def Dq(ta:TE)(tr:TA):TA:=fun σ H Q=>ta σ H fun x H1=>tr σ H1 fun xs H2=>Q (x::xs) H2
section
variable{X:Cx}{e:Expr}{es:List Expr}{te:TE}{t:TA}{pos:Pos}
theorem MK:PA X [] MJ:=fun _ _ _ _ H Q I h=>Calls.spliced_nil ⟨[],H,I,.nil,h⟩
theorem Jf(ha:PE X e te)(hr:PA X es t)(hs:starEach (e::es) X.env=(false,eval e X.env)::starEach es X.env:=by rfl):PA X (e::es) (Dq te t):=by
 intro pos pins s σ H Q I h;rw[hs];show wpAny _ _ (spliced ((false,eval e X.env)::backTo pos (starEach es X.env))) _ _ s;refine Calls.spliced_cons (bD (ha pins s σ H _ I h) fun u s1 MN=> ?_);obtain⟨x,H1,I1,r1,q1⟩:=MN;exact bD (hr pos pins s1 σ H1 _ I1 q1) fun us s2 MP=>by obtain⟨xs,H2,I2,r2,q2⟩:=MP;exact⟨x::xs,H2,I2,.cons r1 r2,q2⟩
def M4(t:TA):TE:=fun σ H Q=>t σ H fun xs H1=>xs.length<=sizeLine/\∀p,H1 p=none ->Q (.ref p) (upd H1 p (.tup xs))
def M5(t:TA):TE:=fun σ H Q=>t σ H fun xs H1=>xs.length<=sizeLine/\∀p,H1 p=none ->Q (.ref p) (upd H1 p (.lst xs))
theorem M6{x1}(h:PA X es t):PE X (.Tuple es x1 pos) (M4 t):=by
 intro pins s σ H Q I hq;refine wpAny_Tuple_spliced (bD (h pos pins s σ H _ I hq) fun us s1 ⟨xs,H1,I1,r,z,q⟩=>⟨by rw[<- r.length];exact z,?_⟩)
 have hf:H1 s1.heap.objs.size=none:=I1.hok.fresh (zO _);refine⟨.ref s1.heap.objs.size,upd H1 s1.heap.objs.size (.tup xs),I1.laid (t' :=s1.toks) (fun b u e=>z8 _ e) (zO _) ?_,rfl,q _ hf⟩;exact⟨z,us,r,⟨_,z9 _ rfl,rfl,_,rfl⟩⟩
theorem V0(h:PA X es t):PE X (.List es pos) (M5 t):=by
 intro pins s σ H Q I hq;refine wpAny_List_spliced (bD (h pos pins s σ H _ I hq) fun us s1 ⟨xs,H1,I1,r,z,q⟩=>⟨by rw[<- r.length];exact z,?_⟩)
 have hf:H1 s1.heap.objs.size=none:=I1.hok.fresh (zO _);refine⟨.ref s1.heap.objs.size,upd H1 s1.heap.objs.size (.lst xs),I1.laid (t' :=s1.toks) (fun b u e=>z8 _ e) (zO _) ?_,rfl,q _ hf⟩;exact⟨z,us,0,r,z9 _ rfl⟩
end
abbrev Sp:=List V ->Hp ->VK ->XK ->Prop
abbrev qy:=List Env ->Hp ->Shared ->XK ->Value ->Shared ->Prop
structure uQ (P:Program) (w:World) (K:W.Frag) (mg:Str ->Option Value) (base:Heap) (A:Around) (outer:List Env) (s:Shared) (H:Hp):Prop where
 frames:A.frames=some outer
 mod:Mod K mg base
 bs:∀b o,base.get? b=some o ->s.heap.get? b=some o/\H b=none
 Af:base.objs.size<=s.heap.objs.size
 funs:s.heap.FunFrames base outer
 CG:∀b∈frs outer,H b=none
 hok:gP P w H s.heap
 bare:AllBare s.gens
def CE(outer:List Env)(P:Program)(w:World)(H:Hp)(s:Shared)(Q:VK)(u:Value)(s' :Shared):Prop:=
 ∃v H',s'.os=s.os/\AllBare s'.gens/\Un (frs outer) [] H H' s.heap s'.heap/\gP P w H' s'.heap/\RelV v u/\Q v H'
def CR(CX:qy)(outer:List Env)(P:Program)(w:World)(H:Hp)(s:Shared)(Q:VK)(E:XK)(r:Result)(s' :Shared):Prop:=
 match r with
 | .ok (.ret u)=>CE outer P w H s Q u s'
 | .ok _=>False
 | .error e=>CX outer H s E e s'
structure dX (P:Program) (w:World) (K:W.Frag) (mg:Str ->Option Value) (base:Heap) (CX:qy) (k:Nat) (f:Addr) (fd:FuncData) (ps:List Str) (sp:Sp):Prop where
 len:∀vs H Q E,sp vs H Q E ->vs.length=ps.length
 run:∀(A:Around) (outer:List Env) (s:Shared) (H:Hp) (args:Args) (us:List Value) (vs:List V) (Q:VK) (E:XK),eN k A ->uQ P w K mg base A outer s H ->BindsTo s fd args (ps.zip us) ->Vals vs us ->sp vs H Q E ->
  codeAny (model P w) A (.call (.ref f) args) (CR CX outer P w H s Q E) s
theorem dX.imp{P:Program}{w:World}{K:W.Frag}{mg:Str ->Option Value}{base:Heap}{CX:qy}{k:Nat}{f:Addr}{fd:FuncData}{ps:List Str}{sp V1 :Sp}(F:dX P w K mg base CX k f fd ps sp)
  (h:∀vs H Q E,V1 vs H Q E ->sp vs H Q E):dX P w K mg base CX k f fd ps V1 :=
 ⟨fun vs H Q E q=>F.len vs H Q E (h _ _ _ _ q),fun A outer s H args us vs Q E hr he hb hv hs=>F.run A outer s H args us vs Q E hr he hb hv (h _ _ _ _ hs)⟩
section
variable{X:Cx}{pins:bA}{σ:St}{H:Hp}{s s' :Shared}
theorem Inv.env0(I:Inv X pins σ H s):uQ X.prog X.w X.K X.mg X.base X.A X.stack s H:=
 ⟨I.ok.frames,I.ok.mod,I.bs,zP I.ok.Af I.sz,I.stack,I.stkFree,I.hok,I.bare⟩
theorem Inv.after{Q:VK}{u:Value}(I:Inv X pins σ H s)(h:CE X.stack X.prog X.w H s Q u s'):EP X pins σ Q u s' :=by
 obtain⟨v,H',os,bare,un,hok,r,q⟩:=h;obtain⟨hh,g,d,t,os'⟩:=s';obtain rfl:os' =s.os:=os;exact⟨v,H',I.call (h' :=hh) (g' :=g) (d' :=d) (t' :=t) (ch:= []) un hok bare (fun b z=>absurd z (by simp)),r,q⟩
end
def V2(sp:Sp)(Ah:List V)(E:XK)(t:TA):TE:=fun σ H Q=>t σ H fun vs H1=>sp (vs++Ah) H1 Q E
def V3(C:Addr)(m:Str)(sp:Sp)(Ah:List V)(E:XK)(ta:TE)(t:TA):TE:=fun σ H Q=>ta σ H fun x H1=>∃a dx fs,x= .ref a/\H1 a=some (.ins C dx fs)/\fs.lookup m=none/\
 t σ H1 fun vs H2=>sp (x::(vs++Ah)) H2 Q E
def V4(C:Addr)(sp:Sp)(Ah:List V)(E:XK)(t:TA):TE:=fun σ H Q=>t σ H fun vs H1=>∀x dx,H1 x=none ->H1 dx=none ->dx≠x ->
 sp (.ref x::(vs++Ah)) (upd (upd H1 dx (.own x)) x (.ins C dx [])) (fun v H2=>v= .non/\Q (.ref x) H2) E
def Binds(K:W.Frag)(fd:FuncData)(ps:List Str)(ds:List Value):Prop:=
 ∀(s:Shared) (us:List Value),K.In s.heap ->(us++ds).length=ps.length ->BindsTo s fd ⟨us,[]⟩ (ps.zip (us++ds))
theorem Binds.all{K:W.Frag}{fd:FuncData}{ps:List Str}(h:∀us:List Value,us.length=ps.length ->bindArgs fd ⟨us,[]⟩=pure (ps.zip us)):Binds K fd ps []:=fun s us _ hl=>by
 rw[List.append_nil] at hl⊢;exact .of_eq (h us hl)
def Passes(CX:qy)(X:Cx)(E:XK):Prop:=∀(pins:bA) (σ:St) (H:Hp) (s:Shared) (e:Value) (s' :Shared),Inv X pins σ H s ->CX X.stack H s E e s' ->X.xe e s'
section
variable{X:Cx}{CX:qy}{k:Nat}{f C:Addr}{fd:FuncData}{ps:List Str}{sp:Sp}{Ah:List V}{ds:List Value}{E:XK}{x m:Str}{p pos apos:Pos}{e o:Expr}{es:List Expr}{ta:TE}{t:TA}
structure Mk (K:W.Frag) (C f:Addr):Prop where
 makes:W.makesIn K C=true
 init:W.findIn K (.ref C) "__init__" =some (some (.ref f))
 fn:W.isFn K (.ref f)=true
 kp:W.keepIn K (.ref C)=true
end
def PK(X:Cx)(kws:List Keyword)(t:TA):Prop:=
 ∀(pos:Pos) (pins:bA) (s:Shared) (σ:St) (H:Hp) (Q:List V ->Hp ->Prop),Inv X pins σ H s ->t σ H Q ->wpAny (model X.prog X.w) X.A (evalAll ((backToKw pos (keywordEach kws X.env)).map (·.2))) (AP X pins σ Q) X.xe s
section
variable{X:Cx}{CX:qy}{k:Nat}{f C:Addr}{fd:FuncData}{ps ks:List Str}{sp:Sp}{E:XK}{x m:Str}{p pos apos kpos:Pos}{e o:Expr}{es:List Expr}{kws:List Keyword}{te ta:TE}{t tk:TA}{nm:Option Str}
structure M7 (K:W.Frag) (fd:FuncData) (ps ks:List Str) (g:List Value ->List Value ->List Value) (gV:List V ->List V ->List V):Prop where
 to:∀(s:Shared) (us ws:List Value),K.In s.heap ->(g us ws).length=ps.length ->BindsTo s fd ⟨us,ks.zip ws⟩ (ps.zip (g us ws))
 rel:∀{vs:List V} {us:List Value} {zs:List V} {ws:List Value},Vals vs us ->Vals zs ws ->Vals (gV vs zs) (g us ws)
def M8(sp:Sp)(gV:List V ->List V ->List V)(E:XK)(t tk:TA):TE:=fun σ H Q=>t σ H fun vs H1=>tk σ H1 fun zs H2=>sp (gV vs zs) H2 Q E
variable{g:List Value ->List Value ->List Value}{gV:List V ->List V ->List V}
end
structure aB (N P:List Str) (sc:Scope):Prop where
 kind:sc.kind= .function
 co:sc.isCoroutine=false
 gen:sc.isGenerator=false
 nd:N.Nodup
 pre:N.take P.length=P
 par:∀x∈P,sc.names.lookup x=some .local\/sc.names.lookup x=some .cell
 nofree:∀y∈sc.names,y.2≠ .free
theorem V5{kindOf:Str ->Option NameKind}{x:Str}:∀{binds:List (Str×Value)} {m:Str ->Option Value},(∀v,(x,v)∉binds) ->bindL kindOf binds m x=m x
 | [],_,_=>rfl
 | (n,v)::r,m,h=>by
  unfold bindL;rw[V5 fun w hw=>h w (List.mem_cons_of_mem _ hw)];split
  ·have:x≠n:=by rintro rfl;exact h v zY
   simp [this]
  ·rfl
theorem V6{kindOf:Str ->Option NameKind}{x:Str}:∀{binds:List (Str×Value)} {m:Str ->Option Value},(∀v,(x,v)∉binds) ->bindC kindOf binds m x=m x
 | [],_,_=>rfl
 | (n,v)::r,m,h=>by
  unfold bindC;rw[V6 fun w hw=>h w (List.mem_cons_of_mem _ hw)];split
  ·rfl
  ·have:x≠n:=by rintro rfl;exact h v zY
   simp [this]
theorem V7{kindOf:Str ->Option NameKind}{x:Str}{v:Value}:∀{P:List Str} {vs:List Value} {i:Nat} {m:Str ->Option Value},P.Nodup ->P[i]?=some x ->vs[i]?=some v ->kindOf x=some .local ->
  bindL kindOf (P.zip vs) m x=some v
 | [],_,_,_,_,h,_,_=>by simp at h
 | _::_,[],_,_,_,_,h,_=>by simp at h
 | p::P,w::vs,0,m,nd,h1,h2,hk=>by
  simp at h1 h2;subst h1;subst h2;show bindL kindOf ((p,w)::P.zip vs) m p=_;unfold bindL;rw[V5 fun v hv=>(List.nodup_cons.mp nd).1 (List.of_mem_zip hv).1,if_pos hk];simp
 | p::P,w::vs,i+1,m,nd,h1,h2,hk=>by
  show bindL kindOf ((p,w)::P.zip vs) m x=_;unfold bindL;exact V7 (i:=i) (List.nodup_cons.mp nd).2 (by simpa using h1) (by simpa using h2) hk
theorem V8{kindOf:Str ->Option NameKind}{x:Str}{v:Value}:∀{P:List Str} {vs:List Value} {i:Nat} {m:Str ->Option Value},P.Nodup ->P[i]?=some x ->vs[i]?=some v ->kindOf x≠some .local ->
  bindC kindOf (P.zip vs) m x=some v
 | [],_,_,_,_,h,_,_=>by simp at h
 | _::_,[],_,_,_,_,h,_=>by simp at h
 | p::P,w::vs,0,m,nd,h1,h2,hk=>by
  simp at h1 h2;subst h1;subst h2;show bindC kindOf ((p,w)::P.zip vs) m p=_;unfold bindC;rw[V6 fun v hv=>(List.nodup_cons.mp nd).1 (List.of_mem_zip hv).1,if_neg hk];simp
 | p::P,w::vs,i+1,m,nd,h1,h2,hk=>by
  show bindC kindOf ((p,w)::P.zip vs) m x=_;unfold bindC;exact V8 (i:=i) (List.nodup_cons.mp nd).2 (by simpa using h1) (by simpa using h2) hk
def start(N:List Str)(vs:List V):St:=vs.map some++List.replicate (N.length - vs.length) none
def jM(CX:qy)(P:Program)(w:World)(K:W.Frag)(mg:Str ->Option Value)(base:Heap)(N:List Str)(qual:Str)(scope:Scope)(f:Addr)(cd:Value)(A:Around)(outer:List Env)(s:Shared)(H:Hp)(E:XK):Cx where
 prog:=P
 w:=w
 K:=K
 mg:=mg
 base:=base
 A:=A.deeper (envOfC qual scope s.heap.objs.size f cd)
 N:=N
 s₀:=s
 H₀:=H
 env:=envOfC qual scope s.heap.objs.size f cd
 outer:=outer
 stack:=envOfC qual scope s.heap.objs.size f cd::outer
 ex:= []
 calm:=true
 fn:=fun _=>true
 pn:= []
 xe:=fun e s' =>wpAny (model P w) (A.deeper (envOfC qual scope s.heap.objs.size f cd)) (leaving (envOfC qual scope s.heap.objs.size f cd) e) (fun _ s'' =>CX outer H s E e s'') (fun e' s'' =>CX outer H s E e' s'') s'
theorem V9{sc:Scope}{n:Nat}{x:Str}(h:sc.names.lookup x=some .cell):∃c,(cellsFrom n sc.names []).lookup x=some c:=by
 have q:=W.cellsFrom_some sc.names n [] (.inl h);exact Option.isSome_iff_exists.mp q
theorem zty{CX:qy}{P:Program}{w:World}{K:W.Frag}{mg:Str ->Option Value}{base:Heap}{N ps:List Str}{qual:Str}{scope:Scope}{f:Addr}{cd:Value}{A:Around}{outer:List Env}{s s1:Shared}{H:Hp}{E:XK}{us:List Value}{vs:List V}
  (S:aB N ps scope) (hd:A.handled=none) (e0:uQ P w K mg base A outer s H) (hl:vs.length=ps.length) (r:Vals vs us)
  (x:InCallC s s.heap.objs.size (bindL (envOfC qual scope s.heap.objs.size f cd).kindOf (ps.zip us) fun _=>none) (cellsFrom (s.heap.objs.size+1) scope.names []) (bindC (envOfC qual scope s.heap.objs.size f cd).kindOf (ps.zip us) fun _=>none) s1):
  Inv (jM CX P w K mg base N qual scope f cd A outer s H E) [] (start N vs) H s1:=by
 have hpl:ps.length<=N.length:=by have:=congrArg List.length S.pre;rw[List.length_take] at this;omega
 obtain⟨h1,tk,rfl,hk⟩:=x.done;have Dr:∀b:Addr,b∉ (jM CX P w K mg base N qual scope f cd A outer s H E).ex:=fun b z=>absurd (show b∈ ([]:List Addr) from z) (by simp)
 refine⟨⟨e0.mod,S.kind,rfl,rfl,zO _,fun y z c h1 h2=> ?_,fun y hy=> ?_,fun y c _ h=> ?_,fun _=>hd,Around.frames_deeper e0.frames,.inr ⟨rfl,rfl⟩,fun b z=>absurd z (Dr b),e0.bs,e0.Af,fun b _ _=>Dr b,fun b z=>absurd z (Dr b),e0.funs,e0.CG⟩,
  rfl,e0.bare,Un.kept hk,⟨_,x.toInCall.ns,fun i y v h1 h2 h3=> ?_⟩,fun y c h=>⟨_,x.cell y c h⟩,e0.hok.fresh (zO _),fun y c h=> ?_,fun p hp=>absurd (show p∈ ([]:bA) from hp) (by simp),e0.hok.kept hk,?_⟩
 ·exact name_of_addr x.apart (PySem.mem_of_lookup h1) (PySem.mem_of_lookup h2)
 ·have hy:scope.names.lookup y=some .cell\/scope.names.lookup y=some .free:=hy;rcases hy with hy | hy
  ·exact V9 hy
  ·exact absurd rfl (S.nofree _ (PySem.mem_of_lookup hy))
 ·exact Nat.le_of_lt (x.above y c (PySem.mem_of_lookup h))
 ·have hi:i<vs.length:=by
   unfold start at h2;by_cases hi:i<vs.length
   ·exact hi
   ·rw[List.getElem?_append_right (by simpa using hi)] at h2
    rw[List.getElem?_replicate] at h2;split at h2<;>cases h2
  have ha:vs[i]?=some v:=by
   unfold start at h2;rw[List.getElem?_append_left (by simpa using hi),List.getElem?_map] at h2
   cases e:vs[i]? with
   | none=>rw[e] at h2;cases h2
   | some a=>rw[e] at h2;cases h2;rfl
  obtain⟨u,hu,rv⟩:=r.get ha;have hp:ps[i]?=some y:=by
   rw[<- S.pre,List.getElem?_take_of_lt (by omega)];exact h1
  have Wa:ps.Nodup:=by rw[<- S.pre];exact S.nd.sublist (List.take_sublist _ _)
  refine⟨u,rv,?_⟩;rcases S.par y (zA hp) with k | k
  ·exact .inl ⟨k,V7 Wa hp hu k⟩
  ·obtain⟨c,e⟩:=V9 (n:=s.heap.objs.size+1) k;refine .inr ⟨.inl k,c,e,?_⟩;have q:=x.cell y c e;rw[V8 Wa hp hu (by show scope.names.lookup y≠_;rw[k];decide)] at q
   exact q
 ·exact e0.hok.fresh (Nat.le_of_lt (x.above y c (PySem.mem_of_lookup h)))
 ·unfold start;show _=N.length;rw[List.length_append,List.length_map,List.length_replicate];omega
theorem Wb{CX:qy}{P:Program}{w:World}{K:W.Frag}{mg:Str ->Option Value}{base:Heap}{k:Nat}{f:Addr}{name qual:Str}{params:Arguments}{body:List Stmt}{scope:Scope}{dV kV doc pm cdv ct oc:Value}{an od:Option Addr}
  {osl:Array (Option Value)} {N ps:List Str} {sp:Sp} (lk:K.lookup f=some ⟨oc,od,.func (W.fnOf name qual params body scope dV kV doc pm an cdv ct),osl⟩) (hcd:W.codeIn K cdv qual=true) (S:aB N ps scope)
  (len:∀vs H Q E,sp vs H Q E ->vs.length=ps.length)
  (hbody:∀(A:Around) (outer:List Env) (s:Shared) (H:Hp) (vs:List V) (Q:VK) (E:XK),eN k (A.deeper (envOfC qual scope s.heap.objs.size f cdv)) ->sp vs H Q E ->
   ∃t,rB (jM CX P w K mg base N qual scope f cdv A outer s H E) body t/\t {nx:=fun _ H' =>Q .non H',rt:=Q} (start N vs) H):
  dX P w K mg base CX (k+1) f (W.fnOf name qual params body scope dV kV doc pm an cdv ct) ps sp:=by
 refine⟨len,fun A outer s H args us vs Q E hr e0 hb r hsp=> ?_⟩;have hl:=len _ _ _ _ hsp;have KX:K.In s.heap:=e0.mod.Cz.keeps fun b o e=>(e0.bs b o e).1;have lim:s.heap.NoLimit:=e0.mod.nolimit.keeps fun b o e=>(e0.bs b o e).1;have hkind:∀y∈ps.zip us,scope.names.lookup y.1=some .local\/ (scope.names.lookup y.1=some .cell/\ ((cellsFrom (s.heap.objs.size+1) scope.names []).lookup y.1).isSome=true):=fun⟨n,v⟩ hy=>by
  rcases S.par n (List.of_mem_zip hy).1 with q | q
  ·exact .inl q
  ·exact .inr ⟨q,W.cellsFrom_some _ _ _ (.inl q)⟩
 refine codeAny_call_function hr.depth (KX _ _ lk) rfl S.co S.gen rfl (W.codeRec_of KX hcd) (hb _ _ _ _ ?_);refine wpAny_newFunctionEnv_cells S.kind hkind fun env he s1 x=> ?_;subst he;refine⟨lim.keeps x.toInCall.keep,codeAny_func ?_⟩;obtain⟨t,ht,hq⟩:=hbody A outer s H vs Q E (hr.deeper _) hsp;have I:Inv (jM CX P w K mg base N qual scope f cdv A outer s H E) [] (start N vs) H s1:=zty S hr.hd e0 hl r x;refine wpAny_mono (ht [] s1 (start N vs) H _ I hq) (fun fl s' hs=> ?_) fun e s' hs=>hs;have fin:∀{σ' :St} {H' :Hp} {v:V} {u:Value},Inv (jM CX P w K mg base N qual scope f cdv A outer s H E) [] σ' H' s' ->RelV v u ->Q v H' ->CE outer P w H s Q u s' :=
  fun{σ' H' v u} J rv q=>⟨v,H',J.os,J.bare,J.base,J.hok,rv,q⟩
 cases fl with
 | ret u=>
  obtain⟨v,σ',H',J,rv,q⟩:=hs;exact fin J rv q
 | next=>
  obtain⟨σ',H',J,q⟩:=hs;exact fin (v:=V.non) (u:=Value.none) J rfl q
 | brk=>
  obtain⟨_,_,_,q⟩:=hs;exact False.elim q
 | cont=>
  obtain⟨_,_,_,q⟩:=hs;exact False.elim q
section
variable{X:Cx}{x:Str}{p pos:Pos}{e:Expr}{es:List Expr}{t:TA}{id T:String}{r:List V ->Hp ->VK ->Prop}
def Ds(r:List V ->Hp ->VK ->Prop)(t:TA):TE:=fun σ H Q=>t σ H fun vs H1=>r vs H1 Q
theorem M9(hc:cg X (.builtin id) r)(hg:Gl X x)(hm:X.mg x=none)(hv:bootBuiltins x=some (.builtin id))(ha:PA X (e::es) t)(hn:x≠ "__name__" :=by decide)(hdb:(x==("__debug__" :Str))=false:=by decide)
  (he:starEach (e::es) X.env=(false,eval e X.env)::starEach es X.env:=by rfl) (hpl:(backTo pos (starEach es X.env)).any (·.1)=false:=by rfl):PE X (.Call (.Name x p) (e::es) [] pos) (Ds r t):=by
 intro pins s σ H Q I h;refine wpAny_Call_Name_kw (vP I hg hm hv ?_ hn hdb);exact PyProof.Rows.callWith_builtin1 (bD (ha pos pins s σ H _ I h) fun us s1 Nb=>by obtain⟨vs,H1,I1,r1,q1⟩:=Nb;exact hc pins s1 σ H1 vs us Q I1 r1 q1) he hpl
theorem Nf(hc:cg X (.type T) r)(hg:Gl X x)(hm:X.mg x=none)(hv:bootBuiltins x=some (.type T))(ha:PA X (e::es) t)(hn:x≠ "__name__" :=by decide)(hdb:(x==("__debug__" :Str))=false:=by decide)
  (he:starEach (e::es) X.env=(false,eval e X.env)::starEach es X.env:=by rfl) (hpl:(backTo pos (starEach es X.env)).any (·.1)=false:=by rfl):PE X (.Call (.Name x p) (e::es) [] pos) (Ds r t):=by
 intro pins s σ H Q I h;refine wpAny_Call_Name_kw (vP I hg hm hv ?_ hn hdb);exact PyProof.Rows.callWith_type1 (bD (ha pos pins s σ H _ I h) fun us s1 Ng=>by obtain⟨vs,H1,I1,r1,q1⟩:=Ng;exact hc pins s1 σ H1 vs us Q I1 r1 q1) he hpl
end
end L2
namespace HT
open PySem PyProof.Rows
def lexLt:List Int ->List Int ->Bool
 | [],[]=>false
 | [],_::_=>true
 | _::_,[]=>false
 | x::xs,y::ys=>if x=y then lexLt xs ys else decide (x<y)
section
open PySem.SeqAt
open PySem.AutoSeq1 (wpAny_loadPart')
open PySem.MeetsSeq PySem.MeetsSeq2 PySem.MeetsSeq3
end
section
variable{prog:Program}{w:World}{A:Around}{E:bH}{s:Shared}
def sIx(n d:Nat):Option Int ->Nat
 | none=>d
 | some v=>if v<0 then(v+ (n:Int)).toNat else min v.toNat n
end
end HT
namespace L2
open PySem PySem.Spec PyProof.Rows
abbrev TO:=St ->Hp ->(Option Int ->Hp ->Prop) ->Prop
def PO(X:Cx)(e:Option Expr)(t:TO):Prop:=
 ∀(pins:bA) (s:Shared) (σ:St) (H:Hp) (Q:Option Int ->Hp ->Prop),Inv X pins σ H s ->t σ H Q ->
  wpAny (model X.prog X.w) X.A (evalPart e X.env) (fun u s' =>∃o H',Inv X pins σ H' s' /\IsPart u o/\Q o H') X.xe s
def z07:TO:=fun _ H Q=>Q none H
def Dt(t:TE):TO:=fun σ H Q=>t σ H fun x H1=>∃i,x= .int i/\Q (some i) H1
section
variable{X:Cx}{e:Expr}{te:TE}{lo hi:Option Expr}{tl th:TO}{pos p2:Pos}
theorem z03:PO X none z07:=by
 intro pins s σ H Q I h;rw[evalPart_none];exact z7 ⟨none,H,I,.none,h⟩
theorem z1i(h:PE X e te):PO X (some e) (Dt te):=by
 intro pins s σ H Q I hw;rw[evalPart_some];refine bD (h pins s σ H _ I hw) fun u s1 Nh=> ?_;obtain⟨x,H1,I1,r1,q1⟩:=Nh;obtain⟨i,rfl,q⟩:=q1;obtain⟨t,rfl⟩:=r1;exact⟨some i,H1,I1,.int i t,q⟩
def Wc(X:Cx)(r:V ->Option Int ->Option Int ->Hp ->VK ->Prop):Prop:=
 ∀(pins:bA) (s:Shared) (σ:St) (H:Hp) (x:V) (v vl vu:Value) (lo hi:Option Int) (sl:Addr) (Q:VK),Inv X pins σ H s ->RelV x v ->s.heap.IsSliceOf sl vl vu .none ->IsPart vl lo ->IsPart vu hi ->r x lo hi H Q ->
  ∃T id,typeLookup (.type T) "__getitem__" =pure (some (.builtin id))/\s.TypeIs v T/\wpAny (model X.prog X.w) X.A (getItem v (.ref sl)) (EP X pins σ Q) X.xe s
def tSl(r:V ->Option Int ->Option Int ->Hp ->VK ->Prop)(te:TE)(tl th:TO):TE:=fun σ H Q=>te σ H fun x H1=>tl σ H1 fun l H2=>th σ H2 fun u H3=>r x l u H3 Q
theorem zyi{r:V ->Option Int ->Option Int ->Hp ->VK ->Prop}(hr:Wc X r)(he:PE X e te)(hl:PO X lo tl)(hu:PO X hi th):PE X (.Subscript e (.Slice lo hi none p2) pos) (tSl r te tl th):=by
 intro pins s σ H Q I h;refine Subscript_ (bD (he pins s σ H _ I h) fun v s1 Ni=> ?_);obtain⟨x,H1,I1,r1,q1⟩:=Ni;refine wpAny_Slice (bD (hl pins s1 σ H1 _ I1 q1) fun vl s2 ⟨l,H2,I2,pl,q2⟩=>bD (hu pins s2 σ H2 _ I2 q2) fun vu s3 ⟨u,H3,I3,pu,q3⟩=> ?_);rw[evalPart_none];refine z7 ?_;have I4:Inv X pins σ H3 {s3 with heap:=s3.heap.push {cls:= .type "slice",data:= .fields #[vl,vu,.none]}}:=I3.kept (t' :=s3.toks) fun b ob q=>z8 _ q;obtain⟨T,id,hT,ht,hg⟩:=hr pins {s3 with heap:=s3.heap.push {cls:= .type "slice",data:= .fields #[vl,vu,.none]}} σ H3 x v vl vu l u s3.heap.objs.size Q I4 r1 (Heap.IsSliceOf.new ..) pl pu q3;show wpAny (model X.prog X.w) X.A (subscriptTail e (.Slice lo hi none p2) v (.ref s3.heap.objs.size)) (EP X pins σ Q) X.xe {s3 with heap:=s3.heap.push {cls:= .type "slice",data:= .fields #[vl,vu,.none]}};exact tail_any (ops:= [.ref s3.heap.objs.size,v]) ht hT hg (by with_unfolding_all rfl)
def o9(xs:List V)(lo hi:Option Int):List V:=(xs.drop (HT.sIx xs.length 0 lo)).take (HT.sIx xs.length xs.length hi - HT.sIx xs.length 0 lo)
theorem zoz(xs:List V)(lo hi:Option Int):(o9 xs lo hi).length<=xs.length:=by
 unfold o9;rw[List.length_take,List.length_drop];omega
def aay(K:W.Frag):V ->Option Int ->Option Int ->Hp ->VK ->Prop:=fun x lo hi H Q=>∃a xs,x= .ref a/\iQ K H a xs/\
 ¬(HT.sIx xs.length 0 lo=0/\HT.sIx xs.length xs.length hi=xs.length)/\∀p,H p=none ->Q (.ref p) (upd H p (.tup (o9 xs lo hi)))
def aaz(K:W.Frag):R2:=fun x y H Q=>∃a b ns ms,x= .ref a/\y= .ref b/\iQ K H a (ns.map V.int)/\iQ K H b (ms.map V.int)/\Q (.bl (HT.lexLt ns ms)) H
def Wd(K:W.Frag):R2:=fun x y H Q=>∃a b xs ys,x= .ref a/\y= .ref b/\iQ K H a xs/\iQ K H b ys/\xs≠ []/\xs.length+ys.length<=sizeLine/\
 (ys= [] ->Q (.ref a) H)/\ (ys≠ [] ->∀p,H p=none ->Q (.ref p) (upd H p (.tup (xs++ys))))
end
def qC(n:Nat)(i:Int):Option Nat:=if 0<=i then(if i<n then some i.toNat else none) else if -(n:Int)<=i then some (i+n).toNat else none
def jE{α:Type}(xs:List α)(i:Int):Option α:=(qC xs.length i).bind fun j=>xs[j]?
theorem Wf{n:Nat}{i:Int}{j:Nat}(h:qC n i=some j):seqIndex? i n=some j/\j<n/\ -(n:Int)<=i/\i<n:=by
 unfold qC at h;by_cases h0:0<=i
 ·rw[if_pos h0] at h;by_cases h1:i<n
  ·rw[if_pos h1] at h;have e:i.toNat=j:=zH h;exact⟨by rw[seqIndex_of h0 h1,e],by omega,by omega,h1⟩
  ·rw[if_neg h1] at h;cases h
 ·rw[if_neg h0] at h;by_cases h1: -(n:Int)<=i
  ·rw[if_pos h1] at h;have e:(i+n).toNat=j:=zH h;exact⟨by rw[seqIndex_neg (by omega) h1,e],by omega,h1,by omega⟩
  ·rw[if_neg h1] at h;cases h
theorem Nj{α:Type}{xs:List α}{i:Int}{v:α}(h:jE xs i=some v):∃j,seqIndex? i xs.length=some j/\xs[j]?=some v/\j<xs.length/\ -(xs.length:Int)<=i/\i<xs.length:=by
 unfold jE at h;cases e:qC xs.length i with
 | none=>rw[e] at h;cases h
 | some j=>
  rw[e] at h;obtain⟨h1,h2,h3,h4⟩:=Wf e;exact⟨j,h1,h,h2,h3,h4⟩
theorem uR{α:Type}{xs:List α}{j:Nat}{v:α}(h:xs[j]?=some v):jE xs (j:Int)=some v:=by
 have hj:j<xs.length:=(zW.mp h).1;have e:qC xs.length (j:Int)=some j:=by
  unfold qC;rw[if_pos (by omega),if_pos (by omega)];simp
 unfold jE;rw[e];exact h
def Wg(b:Expr):Prop:=∀o i,subscripted b false o i=operate [o,i] (getItem o i)
def Jg(X:Cx)(r:R2):Prop:=
 ∀(value slice:Expr) (pins:bA) (s:Shared) (σ:St) (H:Hp) (x y:V) (v u:Value) (Q:VK),Inv X pins σ H s ->RelV x v ->RelV y u ->r x y H Q ->
  subscripted slice false v u=operate [v,u] (getItem v u) ->wpAny (model X.prog X.w) X.A (subscriptTail value slice v u) (EP X pins σ Q) X.xe s
def MtR(X:Cx)(id:String)(r:V ->List V ->Hp ->VK ->Prop):Prop:=
 ∀(pins:bA) (s:Shared) (σ:St) (H:Hp) (x:V) (xs:List V) (v:Value) (us:List Value) (Q:VK),Inv X pins σ H s ->RelV x v ->Vals xs us ->r x xs H Q ->
  wpAny (model X.prog X.w) X.A (call (.builtin id) (v::us)) (EP X pins σ Q) X.xe s
section
variable{X:Cx}{a b:Expr}{ta tb:TE}{pos:Pos}
theorem z54{r:R2}(hr:Jg X r)(ha:PE X a ta)(hb:PE X b tb)(hs:Wg b):PE X (.Subscript a b pos) (Di r ta tb):=by
 intro pins s σ H Q I h;exact Subscript_ (xM ha hb I h fun v u s2 x y H2 I2 rx ry q=>hr a b pins s2 σ H2 x y v u Q I2 rx ry q (hs _ _))
def Du(K:W.Frag):R2:=fun x y H Q=>∃p xs i v,x= .ref p/\y= .int i/\fL K H p xs/\jE xs i=some v/\Q v H
def Dv(K:W.Frag):R2:=fun x y H Q=>∃p xs i v,x= .ref p/\y= .int i/\iQ K H p xs/\jE xs i=some v/\Q v H
def Dw:R2:=fun x y H Q=>∃z i c,x= .str z/\y= .int i/\z.length<=sizeLine/\jE z.cps.toList i=some c/\Q (.str ⟨#[c]⟩) H
theorem z04:Jg X (Du X.K):=by
 intro value slice pins s σ H x y v u Q I rx ry h hs;obtain⟨p,xs,i,z,rfl,rfl,hq,he,q⟩:=h;cases rx;obtain⟨t,rfl⟩:=ry;obtain⟨its,r,pl,hz⟩:=I.list hq;obtain⟨j,h1,h2,h3,h4,h5⟩:=Nj he;obtain⟨w,ew,jD⟩:=r.get h2;have hl:=r.length;have hn:=jl;have fin:EP X pins σ Q w s:=⟨z,H,I,jD,q⟩;by_cases h0:0<=i
 ·have hj:i.toNat=j:=by
   rw[seqIndex_of h0 h5] at h1;exact zH h1
  exact item_listR pl.isList h0 (by omega) (by rw[hj];simpa using ew) fin hs
 ·have hj:(i+ (its.toArray.size:Int)).toNat=j:=by
   rw[seqIndex_neg (by omega) h4] at h1
   rw[List.size_toArray,<- hl];exact zH h1
  exact subscriptTail_builtinR (x:=w) pl.isList.typeIs slot_list_getitem.lookup
   (wpAny_getItem_list_neg (Q:=fun r s' =>r=w/\EP X pins σ Q r s') pl.isList (by omega) (by rw[List.size_toArray]<;>omega) (by omega) (by rw[hj];simpa using ew) ⟨rfl,fin⟩) hs
theorem z3i:Jg X (Dv X.K):=by
 intro value slice pins s σ H x y v u Q I rx ry h hs;obtain⟨p,xs,i,z,rfl,rfl,hq,he,q⟩:=h;cases rx;obtain⟨t,rfl⟩:=ry;obtain⟨its,r,pl,hz⟩:=I.tuple hq;obtain⟨j,h1,h2,h3,h4,h5⟩:=Nj he;obtain⟨w,ew,jD⟩:=r.get h2;have hl:=r.length;have hn:=jl;have fin:EP X pins σ Q w s:=⟨z,H,I,jD,q⟩;exact subscriptTail_builtinR (x:=w) pl.typeIs slot_tuple_getitem.lookup
  (getItem_tuple (j:=j) (Q:=fun r s' =>r=w/\EP X pins σ Q r s') pl (by omega) (by omega) (by rw[List.size_toArray,<- hl];exact h1) (by simpa using ew) ⟨rfl,fin⟩) hs
theorem z21:Jg X Dw:=by
 intro value slice pins s σ H x y v u Q I rx ry h hs;obtain⟨z,i,c,rfl,rfl,hz,he,q⟩:=h;obtain⟨t,rfl⟩:=rx;obtain⟨t',rfl⟩:=ry;obtain⟨j,h1,h2,h3,h4,h5⟩:=Nj he;have hl:z.cps.toList.length=z.length:=by simp [Str.length]
 rw[hl] at h1 h4 h5;have hn:=jl;exact tail_any (typeIs_str s z t) slot_str_getitem.lookup (getItem_str (c:=c) (by
  have e1:decide (i< -(2^63:Int))=false:=decide_eq_false (by omega)
  have e2:decide (i≥2^63)=false:=decide_eq_false (by omega)
  rw[e1,e2,Bool.or_false]) (by rw[h1];simpa using h2) ⟨.str ⟨#[c]⟩,H,I.tok _,⟨_,rfl⟩,q⟩) hs
def rIx(K:W.Frag):R2:=fun x y H Q=>Du K x y H Q\/Dv K x y H Q\/Dw x y H Q
theorem zrz(its:List Value)(n j:Nat)(u:Value):Obj.mapSeq (·.setIfInBounds j u) {cls:= .type "list",data:= .seq its.toArray n}={cls:= .type "list",data:= .seq (its.set j u).toArray n}:=by
 simp [Obj.mapSeq]
theorem Inv.lst{pins:bA}{σ:St}{H:Hp}{s:Shared}{p:Addr}{xs:List V}(I:Inv X pins σ H s)(h:H p=some (.lst xs)):
  ∃(its:List Value) (n:Nat),Vals xs its/\s.heap.get? p=some {cls:= .type "list",data:= .seq its.toArray n}/\xs.length<=sizeLine:=by
 obtain⟨z,its,n,r,e⟩:=I.hok p _ h;exact⟨its,n,r,e,z⟩
theorem Inv.lstUpd{pins:bA}{σ:St}{H:Hp}{s:Shared}{p:Addr}{xs ys:List V}{its its' :List Value}{n n' :Nat}{f:Obj ->Obj}(I:Inv X pins σ H s)(h:H p=some (.lst xs))
  (ho:s.heap.get? p=some {cls:= .type "list",data:= .seq its.toArray n}) (hf:f {cls:= .type "list",data:= .seq its.toArray n}={cls:= .type "list",data:= .seq its'.toArray n'}) (r:Vals ys its') (hz:ys.length<=sizeLine) (t:Nat):
  Inv X pins σ (upd H p (.lst ys)) {s with heap:=s.heap.update p f,toks:=t}:=by
 have e:(s.heap.update p f).get? p=some {cls:= .type "list",data:= .seq its'.toArray n'}:=by
  rw[Heap.get?_update_self f ho (by rw[hf]<;>rfl),hf]
 refine I.write (x:=p) (e:=p) (by rw[h];trivial) (.inl rfl) (fun b u hb q=>(Heap.get?_update_other _ _ (Ne.symm hb)).trans q) ⟨_,e⟩ ?_
 exact⟨hz,its',n',r,e⟩
def Dy:V ->V ->V ->Hp ->(Hp ->Prop) ->Prop:=fun o i v H Q=>∃p xs k j,o= .ref p/\i= .int k/\H p=some (.lst xs)/\qC xs.length k=some j/\Q (upd H p (.lst (xs.set j v)))
theorem zxf:CW X Dy:=by
 intro pins s σ H o i v ov iv u Q I ro ri rv h;obtain⟨p,xs,k,j,rfl,rfl,hp,hj,q⟩:=h;cases ro;obtain⟨t,rfl⟩:=ri;obtain⟨its,n,r,ho,hz⟩:=I.lst hp;obtain⟨h1,h2,h3,h4⟩:=Wf hj;have hl:=r.length;have hn:=jl;have I' :Inv X pins σ (upd H p (.lst (xs.set j v))) {s with heap:=s.heap.update p (Obj.mapSeq (·.setIfInBounds j u))}:=
  I.lstUpd hp ho (zrz its n j u) (r.set rv j) (by rw[List.length_set];exact hz) s.toks
 by_cases h0:0<=k
 ·have hk:k.toNat=j:=by
   rw[seqIndex_of h0 h4] at h1;exact zH h1
  exact W.ki_setAt ho h0 (by omega) (by rw[List.size_toArray,<- hl];exact h4) (by rw[hk];exact⟨_,I',q⟩)
 ·have hk:(k+ (its.toArray.size:Int)).toNat=j:=by
   rw[seqIndex_neg (by omega) h3] at h1
   rw[List.size_toArray,<- hl];exact zH h1
  exact W.ki_setBack ho (by omega) (by rw[List.size_toArray,<- hl];exact h3) (by omega) (by rw[hk];exact⟨_,I',q⟩)
theorem zm4(lo hi:Option Int)(n:Nat):(sliceBounds lo hi none n).1=((HT.sIx n 0 lo:Nat):Int)/\ (sliceBounds lo hi none n).2.1=((HT.sIx n n hi:Nat):Int)/\ (sliceBounds lo hi none n).2.2=1:=by
 refine⟨?_,?_,rfl⟩
 ·cases lo with
  | none=>simp [sliceBounds,HT.sIx]
  | some i=>
   simp only [sliceBounds,HT.sIx,Option.getD_none,show(1:Int)>0 by decide,if_true]
   by_cases h:i<0
   ·simp only [h,if_true]<;>omega
   ·simp only [h,if_false]<;>omega
 ·cases hi with
  | none=>simp [sliceBounds,HT.sIx]
  | some i=>
   simp only [sliceBounds,HT.sIx,Option.getD_none,show(1:Int)>0 by decide,if_true]
   by_cases h:i<0
   ·simp only [h,if_true]<;>omega
   ·simp only [h,if_false]<;>omega
theorem zlr(its:List Value)(lo hi:Option Int):slicePick its.toArray lo hi none=((its.drop (HT.sIx its.length 0 lo)).take (HT.sIx its.length its.length hi - HT.sIx its.length 0 lo)).toArray:=by
 obtain⟨h1,h2,h3⟩:=zm4 lo hi its.toArray.size;unfold slicePick;rw[h1,h2,h3];simp only [sliceRange_one,pick_run,List.size_toArray]<;>rfl
def Nk(K:W.Frag):V ->Option Int ->Option Int ->Hp ->VK ->Prop:=fun x lo hi H Q=>∃a xs,x= .ref a/\fL K H a xs/\∀p,H p=none ->Q (.ref p) (upd H p (.lst (o9 xs lo hi)))
theorem z1g:Wc X (Nk X.K):=by
 intro pins s σ H x v vl vu lo hi sl Q I rx hs pl pu h;obtain⟨a,xs,rfl,hx,q⟩:=h;cases rx;obtain⟨its,r,ht,hz⟩:=I.list hx;have hlen:=r.length;refine⟨"list",_,slot_list_getitem.lookup,ht.isList.typeIs,?_⟩;refine wpAny_getItem_list_slice ht.isList hs pl pu .none (by simp) ?_ (by rw[List.size_toArray]<;>omega)
 rw[zlr,<- hlen];refine⟨.ref s.heap.objs.size,_,I.laid (t' :=s.toks) (o:= .lst (o9 xs lo hi)) (fun b ob q=>z8 _ q) (zO _) ?_,rfl,q _ (I.hok.fresh (zO _))⟩;exact⟨zP (zoz xs lo hi) hz,_,0,(r.drop (HT.sIx xs.length 0 lo)).take (HT.sIx xs.length xs.length hi - HT.sIx xs.length 0 lo),z9 _ rfl⟩
def gW:V ->Bool
 | .non=>true
 | .bl _=>true
 | .int _=>true
 | .str _=>true
 | _=>false
def uT:V ->V ->Bool
 | .non,.non=>true
 | .bl a,.bl b=>a==b
 | .bl a,.int b=>(if a then 1 else 0)==b
 | .int a,.bl b=>a==(if b then 1 else 0)
 | .int a,.int b=>a==b
 | .str a,.str b=>a==b
 | _,_=>false
theorem z46{A:Around}{s:Shared}{y x:V}{u v:Value}(ry:RelV y u)(rx:RelV x v)(fy:gW y=true)(fx:gW x=true):SeqAt.EqAt A s u v (uT y x):=by
 cases y with
 | non=>
  cases ry;cases x with
  | non=>cases rx;exact SeqAt.EqAt.same _
  | bl b=>cases rx;exact SeqAt.EqAt.none_bool b
  | int b=>obtain⟨t,rfl⟩:=rx;exact SeqAt.EqAt.none_int b t
  | str b=>obtain⟨t,rfl⟩:=rx;exact SeqAt.EqAt.none_str b t
  | _=>exact absurd (show false=true from fx) zK
 | bl a=>
  cases ry;cases x with
  | non=>cases rx;exact SeqAt.EqAt.bool_none a
  | bl b=>cases rx;exact SeqAt.EqAt.bool_bool a b
  | int b=>obtain⟨t,rfl⟩:=rx;exact SeqAt.EqAt.bool_int a b t
  | str b=>obtain⟨t,rfl⟩:=rx;exact SeqAt.EqAt.bool_str a b t
  | _=>exact absurd (show false=true from fx) zK
 | int a=>
  obtain⟨t',rfl⟩:=ry;cases x with
  | non=>cases rx;exact SeqAt.EqAt.int_none a t'
  | bl b=>cases rx;exact SeqAt.EqAt.int_bool a t' b
  | int b=>obtain⟨t,rfl⟩:=rx;exact SeqAt.EqAt.int_int a t' b t
  | str b=>obtain⟨t,rfl⟩:=rx;exact SeqAt.EqAt.int_str a t' b t
  | _=>exact absurd (show false=true from fx) zK
 | str a=>
  obtain⟨t',rfl⟩:=ry;cases x with
  | non=>cases rx;exact SeqAt.EqAt.str_none a t'
  | bl b=>cases rx;exact SeqAt.EqAt.str_bool a t' b
  | int b=>obtain⟨t,rfl⟩:=rx;exact SeqAt.EqAt.str_int a t' b t
  | str b=>obtain⟨t,rfl⟩:=rx;exact SeqAt.EqAt.str_str a t' b t
  | _=>exact absurd (show false=true from fx) zK
 | _=>exact absurd (show false=true from fy) zK
def uU(x:V)(u:Value):Bool:=match u with
 | .none=>uT .non x
 | .bool b=>uT (.bl b) x
 | .int i _=>uT (.int i) x
 | .str z _=>uT (.str z) x
 | _=>false
theorem Wh{x y:V}{u:Value}(r:RelV y u)(f:gW y=true):uU x u=uT y x:=by
 cases y with
 | non=>cases r;rfl
 | bl b=>cases r;rfl
 | int i=>obtain⟨t,rfl⟩:=r;rfl
 | str z=>obtain⟨t,rfl⟩:=r;rfl
 | _=>exact absurd (show false=true from f) zK
theorem Nm{x:V}:∀{xs:List V} {us:List Value},Vals xs us ->xs.all gW=true ->us.any (uU x)=xs.any fun y=>uT y x
 | _,_,.nil,_=>rfl
 | y::xs,u::us,.cons r t,f=>by
  rw[List.all_cons,Bool.and_eq_true] at f;rw[List.any_cons,List.any_cons,Wh r f.1,Nm t f.2]
theorem Np{A:Around}{s:Shared}{x:V}{v:Value}(rx:RelV x v)(fx:gW x=true):∀{xs:List V} {us:List Value},Vals xs us ->xs.all gW=true ->∀u∈us,SeqAt.EqAt A s u v (uU x u)
 | _,_,.nil,_=>fun u hu=>by cases hu
 | y::xs,u::us,.cons r t,f=>fun u' hu=>by
  rw[List.all_cons,Bool.and_eq_true] at f;rcases zV.mp hu with rfl | hu
  ·rw[Wh r f.1];exact z46 r rx f.1 fx
  ·exact Np rx fx t f.2 u' hu
def inV(x:V)(xs:List V):Bool:=xs.any fun y=>uT y x
def rIn(K:W.Frag)(neg:Bool):R2:=fun x y H Q=>∃p xs,y= .ref p/\ (fL K H p xs\/iQ K H p xs)/\gW x=true/\xs.all gW=true/\Q (.bl (if neg then !inV x xs else inV x xs)) H
theorem Wi:gU X (compareOp .In) (rIn X.K false):=by
 intro pins s σ H x y v u Q I rx ry h;obtain⟨p,xs,rfl,hq,fx,fs,q⟩:=h;cases ry;rcases hq with hq | hq
 ·obtain⟨its,r,pl,hz⟩:=I.list hq;refine SeqAt.in_listAt (uU x) pl.isList (fun w hw=>Np rx fx r fs w (by simpa using hw)) ⟨.bl _,H,I,rfl,?_⟩
  rw[show its.toArray.any (uU x)=its.any (uU x) by simp,Nm r fs]
  exact q
 ·obtain⟨its,r,pl,hz⟩:=I.tuple hq;refine SeqAt.in_tupleAt (uU x) pl (fun w hw=>Np rx fx r fs w (by simpa using hw)) ⟨.bl _,H,I,rfl,?_⟩
  rw[show its.toArray.any (uU x)=its.any (uU x) by simp,Nm r fs]
  exact q
theorem Wj:cg X (.builtin "len") (fun xs H Q=>∃p ys,xs= [.ref p]/\ (fL X.K H p ys\/iQ X.K H p ys)/\Q (.int ys.length) H):=by
 intro pins s σ H xs us Q I r h;obtain⟨p,ys,rfl,hq,q⟩:=h;obtain⟨u,rfl,rx⟩:=vals1 r;cases rx;have hn:=jl;rcases hq with hq | hq
 ·obtain⟨its,r',pl,hz⟩:=I.list hq;have hlen:=r'.length;exact Calls.call_len_list pl.isList (by simp only [List.size_toArray]<;>omega) ⟨.int ys.length,H,I.tok _,⟨s.toks+1,by rw[List.size_toArray,hlen]⟩,q⟩
 ·obtain⟨its,r',pl,hz⟩:=I.tuple hq;have hlen:=r'.length;exact len_tuple pl (by simp only [List.size_toArray]<;>omega) ⟨.int ys.length,H,I.tok _,⟨s.toks+1,by rw[List.size_toArray,hlen]⟩,q⟩
theorem zmb:cg X (.builtin "len") (fun xs H Q=>∃z,xs= [.str z]/\z.length<=sizeLine/\Q (.int z.length) H):=by
 intro pins s σ H xs us Q I r h;obtain⟨z,rfl,hz,q⟩:=h;obtain⟨u,rfl,t,rfl⟩:=vals1 r;have hn:=jl;exact len_str (by omega) ⟨.int z.length,H,I.tok _,⟨_,rfl⟩,q⟩
theorem Wk:cg X (.type "list") (fun xs H Q=>∃p ys,xs= [.ref p]/\ (fL X.K H p ys\/iQ X.K H p ys)/\∀l,H l=none ->Q (.ref l) (upd H l (.lst ys))):=by
 intro pins s σ H xs us Q I r h;obtain⟨p,ys,rfl,hq,q⟩:=h;obtain⟨u,rfl,rx⟩:=vals1 r;cases rx;have fin:∀(its:List Value),Vals ys its ->ys.length<=sizeLine ->∀(h' :Heap) (c' :Nat),(∀b o',s.heap.get? b=some o' ->h'.get? b=some o') ->
   h'.get? s.heap.objs.size=some {cls:= .type "list",dict:=none,data:= .seq its.toArray c',slots:= #[]} ->EP X pins σ Q (.ref s.heap.objs.size) {s with heap:=h'}:=fun its r' hz h' c' kp e=>
  ⟨.ref s.heap.objs.size,_,I.laid (t' :=s.toks) kp (zO _) (show bw X.prog X.w _ h' _ (.lst ys) from ⟨hz,its,c',r',e⟩),rfl,q _ (I.hok.fresh (zO _))⟩
 rcases hq with hq | hq
 ·obtain⟨its,r',pl,hz⟩:=I.list hq;have hlen:=r'.length;obtain⟨o,ho,hc,n,hd⟩:=pl.isList;exact call_list_seq p (.inl rfl) ho hc hd (fun h' c' kp e=>fin its r' hz h' c' kp e) (by simp only [List.size_toArray]<;>omega)
 ·obtain⟨its,r',pl,hz⟩:=I.tuple hq;have hlen:=r'.length;obtain⟨o,ho,hc,n,hd⟩:=pl;exact call_list_seq p (.inr rfl) ho hc hd (fun h' c' kp e=>fin its r' hz h' c' kp e) (by simp only [List.size_toArray]<;>omega)
def Jh(K:W.Frag)(T:String)(x:V)(H:Hp):Prop:=match x with
 | .str _=>T= "str"
 | .int _=>T= "int"
 | .ref p=>(T= "list" /\∃xs,fL K H p xs)\/ (T= "tuple" /\∃o,K.lookup p=some o/\o.cls= .type "tuple" /\o.dict=none)\/
   (T= "dict" /\ ((∃kvs,H p=some (.dK kvs))\/∃kvs,H p=some (.dT kvs)))\/ (T= "set" /\∃S n,H p=some (.set S n))
 | _=>False
theorem z3y{pins:bA}{σ:St}{H:Hp}{s:Shared}{T:String}{x:V}{v:Value}(I:Inv X pins σ H s)(r:RelV x v)(ty:Jh X.K T x H):
  s.TypeIs v T/\∀a,v= .ref a ->∃ob,s.heap.get? a=some ob/\ob.dict=none:=by
 cases x with
 | str z=>
  obtain⟨t,rfl⟩:=r;cases (show T= "str" from ty);exact⟨typeIs_str s z t,fun _ e=>nomatch e⟩
 | int i=>
  obtain⟨t,rfl⟩:=r;cases (show T= "int" from ty);exact⟨typeIs_int s i t,fun _ e=>nomatch e⟩
 | ref p=>
  cases r;rcases ty with ⟨rfl,xs,hq⟩ | ⟨rfl,o,hk,hc,hd⟩ | ⟨rfl,hk⟩ | ⟨rfl,S,n,hk⟩
  ·obtain⟨its,_,pl,_⟩:=I.list hq;refine⟨pl.isList.typeIs,fun a e=> ?_⟩;cases e;obtain⟨o,n,e,c,hd,_⟩:=pl;exact⟨o,e,hd⟩
  ·refine⟨⟨o,I.kIn p o hk,hc⟩,fun a e=> ?_⟩;cases e;exact⟨o,I.kIn _ o hk,hd⟩
  ·have z:∃o,s.heap.get? p=some o/\o.ExactDict:=by
    rcases hk with ⟨kvs,hk⟩ | ⟨kvs,hk⟩
    ·obtain⟨_,_,_,_,o,_,_,e,ex,_⟩:=I.hok p _ hk;exact⟨o,e,ex⟩
    ·obtain⟨_,_,_,_,o,_,_,e,ex,_⟩:=I.hok p _ hk;exact⟨o,e,ex⟩
   obtain⟨o,e,ex⟩:=z;refine⟨⟨o,e,ex.1⟩,fun a e2=> ?_⟩;cases e2;exact⟨o,e,ex.2.1⟩
  ·obtain⟨o,_,_,_,e,ex,_⟩:=I.hok p _ hk;refine⟨⟨o,e,ex.1⟩,fun a e2=> ?_⟩;cases e2;exact⟨o,e,ex.2.1⟩
 | _=>exact False.elim ty
def aaA(K:W.Frag)(T:String)(r:V ->List V ->Hp ->VK ->Prop)(to:TE):TE:=fun σ H Q=>to σ H fun x H1=>Jh K T x H1/\r x [] H1 Q
def tBM(K:W.Frag)(T:String)(r:V ->List V ->Hp ->VK ->Prop)(to:TE)(t:TA):TE:=fun σ H Q=>to σ H fun x H1=>Jh K T x H1/\t σ H1 fun xs H2=>r x xs H2 Q
variable{o e:Expr}{es:List Expr}{to:TE}{t:TA}{name:Str}{apos cpos:Pos}{T id:String}{r:V ->List V ->Hp ->VK ->Prop}
theorem z5r(pa:PlainAttrs T)(slot:Slot T name id)(hty:typeOf (.builtin id)=pure (.type "method_descriptor"))(hm:MtR X id r)(ho:PE X o to)(ha:PA X (e::es) t)
  (hbase:attributeBase o name X.env (eval o X.env)=eval o X.env:=by rfl)
  (hfew:((backTo cpos (starEach (e::es) X.env)).all (fun x=> !x.1)&&(backToKw cpos (keywordEach [] X.env)).all (fun x=>x.1.isSome)
   &&decide ((e::es).length+ ([]:List Keyword).length+ (if ([]:List Keyword).isEmpty then 0 else 1)<30))=true:=by rfl)
  (hline:(apos.endLine==cpos.line)=true:=by rfl) (hs:starEach (e::es) X.env=(false,eval e X.env)::starEach es X.env:=by rfl) (hplain:(backTo cpos (starEach es X.env)).any (·.1)=false:=by rfl):
  PE X (.Call (.Attribute o name apos) (e::es) [] cpos) (tBM X.K T r to t):=by
 intro pins s σ H Q I h;refine wpAny_Call_method_late hbase hfew hline rfl (bD (ho pins s σ H _ I h) fun v s1 Nq=> ?_);obtain⟨x,H1,I1,r1,ty,q1⟩:=Nq;obtain⟨h1,h2⟩:=z3y I1 r1 ty;refine⟨T,id,pa,slot,hty,h1,h2,?_⟩;have hA:=ha cpos pins s1 σ H1 _ I1 q1;rw[hs] at hA⊢;refine Calls.callWith_builtin (by show(false || (backTo cpos (starEach es X.env)).any (·.1))=false;rw[hplain]<;>rfl) (Calls.evalArgs_plain ?_)
 exact bD hA fun us s2 Nr=>by obtain⟨vs,H2,I2,r2,q2⟩:=Nr;exact hm pins s2 σ H2 x vs v us Q I2 r1 r2 q2
end
def MtM(X:Cx)(id:String)(r:V ->List V ->Hp ->VK ->Prop):Prop:=
 ∀(pins:bA) (s:Shared) (σ:St) (H:Hp) (x:V) (xs:List V) (v:Value) (us:List Value) (Q:VK),Inv X pins σ H s ->RelV x v ->Vals xs us ->r x xs H Q ->
  wpAny (model X.prog X.w) X.A (call (.builtin id) (v::us)) (EP X pins σ Q) X.xe s
theorem Vals.one:∀{x:V} {us:List Value},Vals [x] us ->∃u,us= [u]/\RelV x u
 | _,_,.cons r .nil=>⟨_,rfl,r⟩
section
variable{X:Cx}{pins:bA}{σ:St}{H:Hp}{s:Shared}{l b:Addr}{xs ys zs:List V}
theorem Inv.lset{its its' :List Value}{n:Nat}{f:Array Value ->Array Value}{t' :Nat}(I:Inv X pins σ H s)(hH:H l=some (.lst xs))
  (e:s.heap.get? l=some {cls:= .type "list",data:= .seq its.toArray n}) (hf:f its.toArray=its'.toArray) (hv:Vals ys its') (hz:ys.length<=sizeLine):
  Inv X pins σ (upd H l (.lst ys)) {s with heap:=s.heap.update l (Obj.mapSeq f),toks:=t'}:=by
 have q:=PySem.IsL.update e f;rw[hf] at q;refine I.write (x:=l) (e:=l) (by rw[hH];exact trivial) (.inl rfl) (fun b' u hb hu=>(Heap.get?_update_other s.heap (Obj.mapSeq f) (Ne.symm hb)).trans hu) ⟨_,q⟩ ?_
 exact⟨hz,its',_,hv,q⟩
theorem Inv.lnew{its:List Value}{t' :Nat}(I:Inv X pins σ H s)(hv:Vals ys its)(hz:ys.length<=sizeLine):
  Inv X pins σ (upd H s.heap.objs.size (.lst ys)) {s with heap:=s.heap.push {cls:= .type "list",data:= .seq its.toArray},toks:=t'}:=
 I.laid (fun _ _ q=>z8 _ q) (zO _) ⟨hz,its,0,hv,z9 _ rfl⟩
theorem Inv.fresh(I:Inv X pins σ H s):H s.heap.objs.size=none:=I.hok.fresh (zO _)
theorem Inv.lstM(I:Inv X pins σ H s)(hH:H l=some (.lst xs)):xs.length<=sizeLine/\∃(its:List Value) (n:Nat),Vals xs its/\xs.length=its.length/\s.heap.get? l=some {cls:= .type "list",data:= .seq its.toArray n}:=by
 obtain⟨z,its,n,r,e⟩:=I.hok l _ hH;exact⟨z,its,n,r,r.length,e⟩
theorem zwn{n:Nat}(h:n<=sizeLine):Builtin.List.listTooLong n=false:=by
 unfold Builtin.List.listTooLong;exact decide_eq_false (by omega)
end
section
variable{X:Cx}
def z01:V ->List V ->Hp ->VK ->Prop:=fun x vs H Q=>∃l xs y,x= .ref l/\vs= [y]/\H l=some (.lst xs)/\xs.length<sizeLine/\Q .non (upd H l (.lst (xs++ [y])))
theorem Wl:MtM X "list.append" z01:=by
 intro pins s σ H x vs v us Q I rx rv h;obtain⟨l,xs,y,rfl,rfl,hH,hz,q⟩:=h;cases rx;obtain⟨u,rfl,ru⟩:=rv.one;obtain⟨z,its,n,r,hl,e⟩:=I.lstM hH;refine call_meets F.slot_list_append ⟨_,e,rfl⟩ F.entry_list_append (F.args_list_append_2 _ _) (PySem.list_append l its.toArray n u (by rw[List.size_toArray];omega)) ⟨e,?_⟩
 refine⟨.non,_,I.lset (its' :=its++ [u]) hH e (by simp) (r.append (.cons ru .nil)) ?_,rfl,q⟩
 rw[List.length_append,List.length_singleton];omega
def z5h:V ->List V ->Hp ->VK ->Prop:=fun x vs H Q=>∃l b xs zs,x= .ref l/\vs= [.ref b]/\H l=some (.lst xs)/\H b=some (.lst zs)/\xs.length+zs.length<=sizeLine/\Q .non (upd H l (.lst (xs++zs)))
def aaB:V ->List V ->Hp ->VK ->Prop:=fun x vs H Q=>∃l xs y,x= .ref l/\vs= []/\H l=some (.lst xs)/\xs[xs.length - 1]?=some y/\Q y (upd H l (.lst xs.dropLast))
def Nt:V ->List V ->Hp ->VK ->Prop:=fun x vs H Q=>∃l xs i k y,x= .ref l/\vs= [.int i]/\H l=some (.lst xs)/\ -(2^63)<=i/\i<2^63/\seqIndex? i xs.length=some k/\xs[k]?=some y/\Q y (upd H l (.lst (xs.eraseIdx k)))
def z47:V ->List V ->Hp ->VK ->Prop:=fun x vs H Q=>∃l xs,x= .ref l/\vs= []/\H l=some (.lst xs)/\Q .non (upd H l (.lst xs.reverse))
def Nu:V ->List V ->Hp ->VK ->Prop:=fun x vs H Q=>∃l xs,x= .ref l/\vs= []/\H l=some (.lst xs)/\Q .non (upd H l (.lst []))
def aaC:R2:=fun x y H Q=>∃l b xs zs,x= .ref l/\y= .ref b/\H l=some (.lst xs)/\H b=some (.lst zs)/\xs.length+zs.length<=sizeLine/\∀p,H p=none ->Q (.ref p) (upd H p (.lst (xs++zs)))
def aaD:R2:=fun x y H Q=>∃l k xs,x= .ref l/\y= .int k/\H l=some (.lst xs)/\ -(2^63)<=k/\k<2^63/\xs.length*k.toNat<=sizeLine/\
 ∀p,H p=none ->Q (.ref p) (upd H p (.lst (List.replicate k.toNat xs).flatten))
end
section
variable{prog:Program}{w:World}{A:Around}{E:bH}{s:Shared}
end
section
variable{X:Cx}
end
section
variable{κ:Type}[DecidableEq κ]
def bY(kvs:List (κ×V))(k:κ):Option V:=(kvs.find? fun kv=>decide (kv.1=k)).map (·.2)
def putK(kvs:List (κ×V))(k:κ)(v:V):List (κ×V):=
 if (kvs.any fun kv=>decide (kv.1=k))=true then kvs.map (fun kv=>if kv.1=k then(kv.1,v) else kv) else kvs++ [(k,v)]
def pU(kvs:List (κ×V))(k:κ):List (κ×V):=kvs.filter fun kv=>decide (kv.1≠k)
theorem Nv{p:κ×V}{r:List (κ×V)}{k:κ}(e:p.1=k):bY (p::r) k=some p.2:=by simp [bY,List.find?_cons,e]
theorem Nx{p:κ×V}{r:List (κ×V)}{k:κ}(e:¬p.1=k):bY (p::r) k=bY r k:=by simp [bY,List.find?_cons,e]
theorem Ny(k:κ):∀kvs:List (κ×V),(kvs.any fun kv=>decide (kv.1=k))=(bY kvs k).isSome
 | []=>rfl
 | p::r=>by
  rw[List.any_cons];by_cases e:p.1=k
  ·simp only [Nv e,decide_eq_true e,Bool.true_or,Option.isSome_some]
  ·rw[Nx e,decide_eq_false e,Bool.false_or];exact Ny k r
theorem Wm(kvs:List (κ×V))(k:κ)(v:V):(putK kvs k v).length<=kvs.length+1:=by
 unfold putK;split
 ·rw[List.length_map];omega
 ·rw[List.length_append,List.length_cons,List.length_nil];omega
theorem jk.dO{o:Option V}{u:Option Value}(r:jk o u):o.isSome=u.isSome:=by
 cases o with
 | none=>cases u with
  | none=>rfl
  | some _=>exact(show False from r).elim
 | some _=>cases u with
  | none=>exact(show False from r).elim
  | some _=>rfl
theorem jk.getD{o:Option V}{u:Option Value}{d:V}{d' :Value}(r:jk o u)(rd:RelV d d'):RelV (o.getD d) (u.getD d'):=by
 cases o with
 | none=>cases u with
  | none=>exact rd
  | some _=>exact(show False from r).elim
 | some _=>cases u with
  | none=>exact(show False from r).elim
  | some _=>exact r
theorem KV.val{kvs:List (κ×V)}{vs:List (κ×Value)}(r:KV kvs vs)(k:κ):jk (bY kvs k) (valueAt vs k):=by
 unfold KV at r;induction r with
 | nil=>exact True.intro
 | @cons p q ps qs h t ih=>
  obtain⟨h1,h2⟩:=h;by_cases e:p.1=k
  ·have e' :q.1=k:=h1.symm.trans e;have b:valueAt (q::qs) k=some q.2:=by simp [valueAt,List.find?_cons,e']
   rw[Nv e,b];exact h2
  ·have e' :¬q.1=k:=fun z=>e (h1.trans z);have b:valueAt (q::qs) k=valueAt qs k:=by simp [valueAt,List.find?_cons,e']
   rw[Nx e,b];exact ih
theorem KV.any{kvs:List (κ×V)}{vs:List (κ×Value)}(r:KV kvs vs)(k:κ):(kvs.any fun kv=>decide (kv.1=k))=vs.any fun kv=>decide (kv.1=k):=by
 unfold KV at r;induction r with
 | nil=>rfl
 | cons h t ih=>rw[List.any_cons,List.any_cons,ih,h.1]
theorem KV.repl{kvs:List (κ×V)}{vs:List (κ×Value)}(r:KV kvs vs)(k:κ){y:V}{u:Value}(ry:RelV y u):
  KV (kvs.map fun kv=>if kv.1=k then(kv.1,y) else kv) (vs.map fun kv=>if kv.1=k then(kv.1,u) else kv):=by
 unfold KV at r⊢;induction r with
 | nil=>exact .nil
 | @cons p q ps qs h t ih=>
  rw[List.map_cons,List.map_cons];refine .cons ?_ ih;obtain⟨h1,h2⟩:=h;by_cases e:p.1=k
  ·rw[if_pos e,if_pos (h1.symm.trans e)];exact⟨h1,ry⟩
  ·rw[if_neg e,if_neg (fun z=>e (h1.trans z))];exact⟨h1,h2⟩
theorem KV.put{kvs:List (κ×V)}{vs:List (κ×Value)}(r:KV kvs vs)(k:κ){y:V}{u:Value}(ry:RelV y u):KV (putK kvs k y) (stored vs k u):=by
 unfold putK stored;rw[r.any k];by_cases e:(vs.any fun kv=>decide (kv.1=k))=true
 ·rw[if_pos e,if_pos e];exact r.repl k ry
 ·rw[if_neg e,if_neg e];exact Paired.snoc r ⟨rfl,ry⟩
theorem KV.length{kvs:List (κ×V)}{vs:List (κ×Value)}(r:KV kvs vs):kvs.length=vs.length:=Paired.length r
end
theorem Ai{P:Program}{w:World}{k:Key}{u:Value}(r:RelV (kV k) u):(iB P w).is k u=true:=by
 cases k with
 | inl i=>obtain⟨t,e⟩:=(show∃t,u=Value.int i t from r);subst e;exact zol P w i t
 | inr x=>obtain⟨t,e⟩:=(show∃t,u=Value.str x t from r);subst e;exact Vo P w x t
theorem Nz{P:Program}{w:World}:∀{ks:List Key} {us:List Value},Vals (ks.map kV) us ->ItemsAre (iB P w) ks us
 | [],_,r=>by rw[List.map_nil] at r;cases r;exact .nil
 | k::ks,_,r=>by
  rw[List.map_cons] at r;cases r with
  | cons h t=>exact .cons (Ai h) (Nz t)
abbrev KT(H:Hp):List (List Key×V) ->List (List Key×Addr×Value) ->Prop:=Paired fun p q=>p.1=q.1/\H q.2.1=some (.tup (p.1.map kV))/\RelV p.2 q.2.2
theorem KT.val{H:Hp}{kvs:List (List Key×V)}{xs:List (List Key×Addr×Value)}(r:KT H kvs xs)(k:List Key):jk (bY kvs k) ((atKey xs k).map (·.2)):=by
 induction r with
 | nil=>exact True.intro
 | @cons p q ps qs h t ih=>
  obtain⟨h1,_,h2⟩:=h;by_cases e:p.1=k
  ·have e' :q.1=k:=h1.symm.trans e;have b:atKey (q::qs) k=some q.2:=by simp [atKey,List.find?_cons,e']
   rw[Nv e,b];exact h2
  ·have e' :¬q.1=k:=fun z=>e (h1.trans z);have b:atKey (q::qs) k=atKey qs k:=by simp [atKey,List.find?_cons,e']
   rw[Nx e,b];exact ih
theorem KT.repl{H:Hp}{kvs:List (List Key×V)}{xs:List (List Key×Addr×Value)}(r:KT H kvs xs)(k:List Key){y:V}{u:Value}(ry:RelV y u):
  KT H (kvs.map fun kv=>if kv.1=k then(kv.1,y) else kv) (xs.map (putAt k u)):=by
 induction r with
 | nil=>exact .nil
 | @cons p q ps qs h t ih=>
  rw[List.map_cons,List.map_cons];refine .cons ?_ ih;obtain⟨h1,h2,h3⟩:=h;unfold putAt;by_cases e:p.1=k
  ·rw[if_pos e,if_pos (h1.symm.trans e)];exact⟨h1,h2,ry⟩
  ·rw[if_neg e,if_neg (fun z=>e (h1.trans z))];exact⟨h1,h2,h3⟩
theorem KT.put{H:Hp}{kvs:List (List Key×V)}{xs:List (List Key×Addr×Value)}(r:KT H kvs xs)(k:List Key){b:Addr}{y:V}{u:Value}(hb:H b=some (.tup (k.map kV)))(ry:RelV y u):
  KT H (putK kvs k y) (storedH xs k b u):=by
 have e:(kvs.any fun kv=>decide (kv.1=k))=(atKey xs k).isSome:=by
  rw[Ny,(r.val k).dO,Option.isSome_map]
 unfold putK storedH;rw[e];by_cases q:(atKey xs k).isSome=true
 ·rw[if_pos q,if_pos q];exact r.repl k ry
 ·rw[if_neg q,if_neg q];exact Paired.snoc r ⟨rfl,hb,ry⟩
theorem KT.keeps{H H' :Hp}{kvs:List (List Key×V)}{xs:List (List Key×Addr×Value)}(r:KT H kvs xs)(ht:∀b ys,H b=some (.tup ys) ->H' b=some (.tup ys)):KT H' kvs xs:=
 Paired.mapP r fun _ _ z=>⟨z.1,ht _ _ z.2.1,z.2.2⟩
section
variable{P:Program}{w:World}{H:Hp}{h:Heap}{a:Addr}
theorem Wn{u:HO}(ok:gP P w H h)(e:Rd H a u):bw P w H h a u:=e.ok ok
theorem uV{kvs:List (Key×V)}(ok:gP P w H h)(e:Rd H a (.dK kvs)):kvs.length<=sizeLine/\ (a==sysModules)=false/\∃vs,KV kvs vs/\h.DictOf (iB P w) a vs:=
 show bw P w H h a (.dK kvs) from Wn ok e
theorem Ji{kvs:List (Key×V)}(ok:gP P w H h)(e:H a=some (.dK kvs)):kvs.length<=sizeLine/\ (a==sysModules)=false/\∃vs,KV kvs vs/\h.DictOf (iB P w) a vs:=uV ok (.inl e)
theorem Aj{ks:List Key}(ok:gP P w H h)(e:H a=some (.tup (ks.map kV))):(tupleKind (iB P w)).is h ks a:=by
 obtain⟨_,its,r,o,h1,h2,n,h3⟩:=(show bw P w H h a (.tup (ks.map kV)) from ok a _ e);exact⟨o,its.toArray,n,h1,h2,h3,by simpa using Nz r⟩
theorem uW{kvs:List (List Key×V)}(ok:gP P w H h)(e:Rd H a (.dT kvs)):kvs.length<=sizeLine/\ (a==sysModules)=false/\
  ∃xs,KT H kvs xs/\h.DictOfH (tupleKind (iB P w)) a xs:=by
 obtain⟨z,y,xs,r,o,es,ep,h1,h2,h3,h4,h5⟩:=(show bw P w H h a (.dT kvs) from Wn ok e);refine⟨z,y,xs,r,o,es,ep,h1,h2,h3,h4,fun x hx=> ?_,h5⟩;have all:∀{l:List (List Key×V)} {m:List (List Key×Addr×Value)},KT H l m ->∀x∈m,(tupleKind (iB P w)).is h x.1 x.2.1:=by
  intro l m q;induction q with
  | nil=>intro x hx;exact nomatch hx
  | @cons p q ps qs hq t ih=>
   intro x hx;rcases zV.mp hx with e | hx
   ·subst e;exact Aj ok (by rw[<- hq.1];exact hq.2.1)
   ·exact ih x hx
 exact all r x hx
theorem z5u{kvs:List (List Key×V)}(ok:gP P w H h)(e:H a=some (.dT kvs)):kvs.length<=sizeLine/\ (a==sysModules)=false/\
  ∃xs,KT H kvs xs/\h.DictOfH (tupleKind (iB P w)) a xs:=uW ok (.inl e)
end
def gQ(H:Hp)(a:Addr)(y:V)(r:Option V):Prop:=
 (∃kvs k,Rd H a (.dK kvs)/\y=kV k/\r=bY kvs k)\/∃kvs k b,Rd H a (.dT kvs)/\y= .ref b/\H b=some (.tup (k.map kV))/\r=bY kvs k
def jZ(H:Hp)(a:Addr)(y v:V)(H' :Hp):Prop:=
 (∃kvs k,H a=some (.dK kvs)/\y=kV k/\kvs.length<sizeLine/\H' =upd H a (.dK (putK kvs k v)))\/
 ∃kvs k b,H a=some (.dT kvs)/\y= .ref b/\H b=some (.tup (k.map kV))/\kvs.length<sizeLine/\H' =upd H a (.dT (putK kvs k v))
theorem gQ.k{H:Hp}{a:Addr}{kvs:List (Key×V)}{k:Key}(e:H a=some (.dK kvs)):gQ H a (kV k) (bY kvs k):= .inl ⟨kvs,k,.inl e,rfl,rfl⟩
theorem jZ.k{H:Hp}{a:Addr}{kvs:List (Key×V)}{k:Key}{v:V}(e:H a=some (.dK kvs))(hl:kvs.length<sizeLine):jZ H a (kV k) v (upd H a (.dK (putK kvs k v))):= .inl ⟨kvs,k,e,rfl,hl,rfl⟩
theorem jZ.t{H:Hp}{a b:Addr}{kvs:List (List Key×V)}{k:List Key}{v:V}(e:H a=some (.dT kvs))(eb:H b=some (.tup (k.map kV)))(hl:kvs.length<sizeLine):
  jZ H a (.ref b) v (upd H a (.dT (putK kvs k v))):= .inr ⟨kvs,k,b,e,rfl,eb,hl,rfl⟩
section
variable{X:Cx}{pins:bA}{σ:St}{H:Hp}{s:Shared}{a:Addr}{y v:V}{u r:Value}{o:Option V}{A:Around}{E:bH}
theorem Inv.big(I:Inv X pins σ H s):sysModules<s.heap.objs.size:=by
 have h:mainGlobals<s.heap.objs.size:=(I.mod.glob.keeps I.bk).lt;exact Nat.lt_trans (by decide) h
theorem zsh{Q:bH}(hu:A.units+1<cLine)(I:Inv X pins σ H s)(g:gQ H a y (some v))(ry:RelV y u)(h:∀w' s',Inv X pins σ H s' ->RelV v w' ->Q w' s'):
  wpAny (model X.prog X.w) A (getItem (.ref a) u) Q E s:=by
 rcases g with ⟨kvs,k,e,ey,l⟩ | ⟨kvs,k,b,e,ey,eb,l⟩
 ·subst ey;obtain⟨z,hd,vs,rel,dd⟩:=uV I.hok e;obtain⟨w',hw,jD⟩:=jk.some_of (v:=v) (o:=valueAt vs k) (by rw[l];exact rel.val k)
  exact wpAny_getItem_of (Ai ry) dd.mapOf hw (h w' _ (I.tok _) jD)
 ·subst ey;cases (show u=Value.ref b from ry);obtain⟨z,hd,xs,rel,dd⟩:=uW I.hok e;obtain⟨w',hw,jD⟩:=jk.some_of (v:=v) (o:=(atKey xs k).map (·.2)) (by rw[l];exact rel.val k)
  obtain⟨p,hp,hp2⟩:=zG.mp hw;refine wpAny_getItem_heap (tupleKind_room_in1 hu) (Aj I.hok eb) dd hp ?_;rw[hp2];exact h w' _ (I.tok _) jD
theorem NK{Q:bH}(hu:A.units+1<cLine)(I:Inv X pins σ H s)(g:gQ H a y o)(ry:RelV y u)(h:∀s',Inv X pins σ H s' ->Q (.bool o.isSome) s'):
  wpAny (model X.prog X.w) A (compareOp .In u (.ref a)) Q E s:=by
 rcases g with ⟨kvs,k,e,ey,l⟩ | ⟨kvs,k,b,e,ey,eb,l⟩
 ·subst ey;obtain⟨z,hd,vs,rel,dd⟩:=uV I.hok e;refine wpAny_in_of (Ai ry) hd dd.mapOf ?_;rw[<- (rel.val k).dO,<- l];exact h _ (I.tok _)
 ·subst ey;cases (show u=Value.ref b from ry);obtain⟨z,hd,xs,rel,dd⟩:=uW I.hok e;refine wpAny_in_heap (tupleKind_room_in1 hu) (Aj I.hok eb) hd dd ?_;have q:=(rel.val k).dO;rw[Option.isSome_map] at q;rw[<- q,<- l];exact h _ (I.tok _)
theorem z0y{Q:bH}(hu:A.units+1<cLine)(I:Inv X pins σ H s)(g:gQ H a y o)(ry:RelV y u)(h:∀s',Inv X pins σ H s' ->Q (.bool (!o.isSome)) s'):
  wpAny (model X.prog X.w) A (compareOp .NotIn u (.ref a)) Q E s:=by
 rcases g with ⟨kvs,k,e,ey,l⟩ | ⟨kvs,k,b,e,ey,eb,l⟩
 ·subst ey;obtain⟨z,hd,vs,rel,dd⟩:=uV I.hok e;refine wpAny_notIn_of (Ai ry) hd dd.mapOf ?_;rw[<- (rel.val k).dO,<- l];exact h _ (I.tok _)
 ·subst ey;cases (show u=Value.ref b from ry);obtain⟨z,hd,xs,rel,dd⟩:=uW I.hok e;refine wpAny_notIn_heap (tupleKind_room_in1 hu) (Aj I.hok eb) hd dd ?_;have q:=(rel.val k).dO;rw[Option.isSome_map] at q;rw[<- q,<- l];exact h _ (I.tok _)
theorem Wo{h' :Heap}{t' :Nat}{ob:HO}(I:Inv X pins σ H s)(mu:Cw (H a))(hs:Heap.SameBut a s.heap h')(he:∃q,h'.get? a=some q)(new:bw X.prog X.w (upd H a ob) h' a ob):
  Inv X pins σ (upd H a ob) {s with heap:=h',toks:=t'}:=
 I.write (x:=a) (e:=a) mu (.inl rfl) (fun b q hb z=>(hs.2 b hb).trans z) he new
theorem z27{P:Program}{w:World}{H' :Hp}{h' :Heap}{kvs:List (Key×V)}{vs:List (Key×Value)}(z:kvs.length<=sizeLine)(hd:(a==sysModules)=false)(rel:KV kvs vs)(dd:h'.DictOf (iB P w) a vs):
  bw P w H' h' a (.dK kvs):=⟨z,hd,vs,rel,dd⟩
theorem zt7{H' :Hp}{Q:Unit ->Shared ->Prop}(hu:A.units+1<cLine)(I:Inv X pins σ H s)(g:jZ H a y v H')(ry:RelV y u)(rv:RelV v r)(h:∀s',Inv X pins σ H' s' ->Q () s'):
  wpAny (model X.prog X.w) A (setItem (.ref a) u r) Q E s:=by
 rcases g with ⟨kvs,k,e,ey,l,eH⟩ | ⟨kvs,k,b,e,ey,eb,l,eH⟩
 ·subst ey eH;obtain⟨z,hd,vs,rel,dd⟩:=Ji I.hok e;have hz:vs.length<=sizeLine:=by rw[<- rel.length];exact z
  have hl:(putK kvs k v).length<=sizeLine:=by have:=Wm kvs k v;omega
  refine wpAny_setItem_pairs (hsz:=hz) (Ai ry) dd fun h' Dz hs=>h _ ?_;have he:∃q,h'.get? a=some q:=let ⟨q,_,_,hq,_⟩:=Dz;⟨q,hq⟩;exact Wo I (by rw[e];exact True.intro) hs he (z27 hl hd (rel.put k rv) Dz)
 ·subst ey eH;cases (show u=Value.ref b from ry);obtain⟨z,hd,xs,rel,dd⟩:=z5u I.hok e;have hz:xs.length<=sizeLine:=by rw[<- Paired.length rel];exact z
  have hl:(putK kvs k v).length<=sizeLine:=by have:=Wm kvs k v;omega
  refine wpAny_setItem_heap (hsz:=hz) (tupleKind_room_in1 hu) (Aj I.hok eb) dd fun h' Dz hs=>h _ ?_;obtain⟨q,es,ep,hq,h2,h3,h4,_,h5⟩:=Dz;refine Wo I (by rw[e];exact True.intro) hs ⟨q,hq⟩ ⟨hl,hd,_,(rel.put k eb rv).keeps fun c ys ec=> ?_,q,es,ep,hq,h2,h3,h4,h5⟩
  rw[cQ (z5n ec e (fun z=>nomatch z))];exact ec
end
section
variable{X:Cx}{pins:bA}{σ:St}{H:Hp}{s:Shared}{a:Addr}{kvs:List (Key×V)}{k:Key}{u:Value}{A:Around}{E:bH}
theorem z57{Q:bH}(I:Inv X pins σ H s)(e:Rd H a (.dK kvs))(h:∀t s',Inv X pins σ H s' ->Q (.int kvs.length t) s'):wpAny (model X.prog X.w) A (call (.builtin "len") [.ref a]) Q E s:=by
 obtain⟨z,hd,vs,rel,dd⟩:=uV I.hok e;refine call_len_dict hd dd (by rw[<- rel.length];rw[sizeLine_eq] at z;omega) ?_
 rw[<- rel.length];exact h _ _ (I.tok _)
end
def qF(i:Expr):Prop:=∀ov iv,subscripted i false ov iv=operate [ov,iv] (getItem ov iv)
theorem Wq{prog:Program}{w:World}{A:Around}{E:bH}{s:Shared}{env:Env}{value slice:Expr}{pos:Pos}{T id:String}{Q:bH}
  (hl:typeLookup (.type T) "__getitem__" =pure (some (.builtin id))) (hs:qF slice)
  (h:wpAny (model prog w) A (eval value env) (fun o s₁=>wpAny (model prog w) A (eval slice env) (fun i s₂=>s₂.TypeIs o T/\wpAny (model prog w) A (getItem o i) Q E s₂) E s₁) E s):
  wpAny (model prog w) A (eval (.Subscript value slice pos) env) Q E s:=by
 refine Subscript_ (wpAny_mono h (fun o s₁ h₁=>wpAny_mono h₁ (fun i s₂ h₂=> ?_) fun _ _ x=>x) fun _ _ x=>x);obtain⟨hT,h₂⟩:=h₂;unfold subscriptTail;refine z6 ?_;rw[getitemInPython_of_ne hT.not_modules];refine z6 (wpAny_specialOf hT hl ?_);have fin:wpAny (model prog w) A (subscripted slice false o i) (fun r s₃=>wpAny (model prog w) A (letTemporaryGo value o r>>=fun _=>pure r) Q E s₃) E s₂:=by
  rw[hs o i];exact wpAny_operating (wpAny_mono h₂ (fun r s₃ h₃=>z6 (wpAny_letTemporaryGo (z7 h₃))) fun _ _ x=>x)
 first
  | exact z7 (z6 fin)
  | exact z6 (z7 (z6 fin))
  | exact z6 fin
theorem zn5{X:Cx}{pins:bA}{σ:St}{H:Hp}{s:Shared}{a:Addr}{y:V}{o:Option V}(I:Inv X pins σ H s)(g:gQ H a y o):s.TypeIs (.ref a) "dict" :=by
 rcases g with ⟨kvs,k,e,_,_⟩ | ⟨kvs,k,b,e,_,_,_⟩
 ·obtain⟨_,_,vs,_,dd⟩:=uV I.hok e;exact dd.typeIs
 ·obtain⟨_,_,xs,_,dd⟩:=uW I.hok e;exact dd.typeIs
def DG(td ty:TE):TE:=fun σ H Q=>td σ H fun x H1=>ty σ H1 fun y H2=>∃a v,x= .ref a/\gQ H2 a y (some v)/\Q v H2
def NP(ty td:TE):TE:=fun σ H Q=>ty σ H fun y H1=>td σ H1 fun x H2=>∃a o,x= .ref a/\gQ H2 a y o/\Q (.bl o.isSome) H2
def z1v(ty td:TE):TE:=fun σ H Q=>ty σ H fun y H1=>td σ H1 fun x H2=>∃a o,x= .ref a/\gQ H2 a y o/\Q (.bl (!o.isSome)) H2
def DK(td ty tv:TE):TS:=fun D σ H=>tv σ H fun v H1=>td σ H1 fun x H2=>ty σ H2 fun y H3=>∃a H4,x= .ref a/\jZ H3 a y v H4/\D.nx σ H4
def Wr(td ty tv:TE)(rd:V ->V ->Hp ->VK ->Prop):TS:=fun D σ H=>td σ H fun x H1=>ty σ H1 fun y H2=>∃a v,x= .ref a/\gQ H2 a y (some v)/\
 tv σ H2 fun y2 H3=>rd v y2 H3 fun z H4=>∃H5,jZ H4 a y z H5/\D.nx σ H5
def Ws(td ty:TE):TS:=fun D σ H=>td σ H fun x H1=>ty σ H1 fun y H2=>∃a kvs k,x= .ref a/\H2 a=some (.dK kvs)/\y=kV k/\ (bY kvs k).isSome=true/\D.nx σ (upd H2 a (.dK (pU kvs k)))
section
variable{X:Cx}{o i e value:Expr}{pos pos' tpos:Pos}{td ty tv:TE}
theorem Wt(hu:X.A.units+1<cLine)(ho:PE X o td)(hi:PE X i ty)(hs:qF i):PE X (.Subscript o i pos) (DG td ty):=by
 intro pins s σ H Q I h;refine Wq PySem.F.slot_dict_getitem.lookup hs (bD (ho pins s σ H _ I h) fun u s1 ⟨x,H1,I1,rx,q1⟩=>bD (hi pins s1 σ H1 _ I1 q1) fun iv s2 ⟨y,H2,I2,ry,a,v,ex,g,q2⟩=> ?_);subst ex;obtain rfl:u=Value.ref a:=rx;exact⟨zn5 I2 g,zsh hu I2 g ry fun w' s3 I3 jD =>⟨v,H2,I3,jD,q2⟩⟩
theorem z4j(hu:X.A.units+1<cLine)(hi:PE X i ty)(ho:PE X o td):PC X .In i o (NP ty td):=by
 intro pins s σ H Q I h;refine bD (hi pins s σ H _ I h) fun iv s1 ⟨y,H1,I1,ry,q1⟩=>bD (ho pins s1 σ H1 _ I1 q1) fun u s2 ⟨x,H2,I2,rx,a,ov,ex,g,q2⟩=> ?_;subst ex;obtain rfl:u=Value.ref a:=rx;exact NK hu I2 g ry fun s3 I3=>⟨.bl ov.isSome,H2,I3,rfl,q2⟩
theorem zua(hu:X.A.units+1<cLine)(hi:PE X i ty)(ho:PE X o td):PC X .NotIn i o (z1v ty td):=by
 intro pins s σ H Q I h;refine bD (hi pins s σ H _ I h) fun iv s1 ⟨y,H1,I1,ry,q1⟩=>bD (ho pins s1 σ H1 _ I1 q1) fun u s2 ⟨x,H2,I2,rx,a,ov,ex,g,q2⟩=> ?_;subst ex;obtain rfl:u=Value.ref a:=rx;exact z0y hu I2 g ry fun s3 I3=>⟨.bl (!ov.isSome),H2,I3,rfl,q2⟩
theorem Jj(hu:X.A.units+1<cLine)(ho:PE X o td)(hi:PE X i ty)(hv:PE X value tv)(hs:swapsWith value (some (.Subscript o i pos')) pos.line X.env=pure false):
  PS X (.Assign [.Subscript o i pos'] value pos) (DK td ty tv):=by
 intro pins s σ H D I h;refine wpAny_Assign_Subscript (bD (hv pins s σ H _ I h) fun r s1 ⟨v,H1,I1,rv,q1⟩=>bD (ho pins s1 σ H1 _ I1 q1) fun u s2 ⟨x,H2,I2,rx,q2⟩=>bD (hi pins s2 σ H2 _ I2 q2) fun iv s3 ⟨y,H3,I3,ry,a,H4,ex,g,q3⟩=> ?_) hs;subst ex;obtain rfl:u=Value.ref a:=rx;exact zt7 hu I3 g ry rv fun s4 I4=>⟨σ,H4,I4,q3⟩
end
theorem zwp{P:Program}{w:World}{H:Hp}(h:Heap)(hb:sysModules<h.objs.size):bw P w H (h.push {cls:= .type "dict",data:= .dict #[]}) h.objs.size (.dK []):=
 ⟨Nat.zero_le _,beq_eq_false_iff_ne.mpr (Ne.symm (zL hb)),[],.nil,Heap.DictOf.new h⟩
theorem zxe{P:Program}{w:World}{H:Hp}(h:Heap)(hb:sysModules<h.objs.size):bw P w H (h.push {cls:= .type "dict",data:= .dict #[]}) h.objs.size (.dT []):=
 ⟨Nat.zero_le _,beq_eq_false_iff_ne.mpr (Ne.symm (zL hb)),[],.nil,_,#[],0,z9 _ rfl,⟨rfl,rfl,rfl⟩,rfl,rfl,List.nodup_nil⟩
def xP:TE:=fun _ H Q=>∀p,H p=none ->Q (.ref p) (upd H p (.dK []))
def xQ:TE:=fun _ H Q=>∀p,H p=none ->Q (.ref p) (upd H p (.dT []))
section
variable{X:Cx}{pos:Pos}
theorem zyu:PE X (.Dict [] [] pos) xP:=fun pins s σ H Q I h=>
 wpAny_Dict_empty ⟨.ref s.heap.objs.size,_,I.laid (a:=s.heap.objs.size) (o:= .dK []) (t' :=s.toks) (fun _ _ q=>z8 _ q) (zO _) (zwp s.heap I.big),rfl,h _ (I.hok.fresh (zO _))⟩
theorem zxw:PE X (.Dict [] [] pos) xQ:=fun pins s σ H Q I h=>
 wpAny_Dict_empty ⟨.ref s.heap.objs.size,_,I.laid (a:=s.heap.objs.size) (o:= .dT []) (t' :=s.toks) (fun _ _ q=>z8 _ q) (zO _) (zxe s.heap I.big),rfl,h _ (I.hok.fresh (zO _))⟩
end
def pq:List (TE×TE) ->St ->Hp ->(List (V×V) ->Hp ->Prop) ->Prop
 | [],_,H,Q=>Q [] H
 | (tk,tv)::r,σ,H,Q=>tk σ H fun x H1=>tv σ H1 fun y H2=>pq r σ H2 fun ps H3=>Q ((x,y)::ps) H3
abbrev VV:List (V×V) ->List (Value×Value) ->Prop:=Paired fun p q=>RelV p.1 q.1/\RelV p.2 q.2
def PPs(X:Cx)(pos:Pos)(keys:List (Option Expr))(values:List Expr)(NQ:List (TE×TE)):Prop:=
 ∀(pins:bA) (s:Shared) (σ:St) (H:Hp) (Q:List (V×V) ->Hp ->Prop),Inv X pins σ H s ->pq NQ σ H Q ->
  wpAny (model X.prog X.w) X.A (evalPairs (pairTrees keys values X.env pos)) (fun vs s' =>∃ps H',Inv X pins σ H' s' /\VV ps vs/\Q ps H') X.xe s
def xR(kvs more:List (Key×V)):List (Key×V):=more.foldl (fun acc kv=>putK acc kv.1 kv.2) kvs
def Wu(NQ:List (TE×TE)):TE:=fun σ H Q=>∀p,H p=none ->pq NQ σ (upd H p (.dK [])) fun ps H2=>H2 p=some (.dK [])/\∃kvs:List (Key×V),ps=kvs.map (fun kv=>(kV kv.1,kv.2))/\kvs.length<=15/\Q (.ref p) (upd H2 p (.dK (xR [] kvs)))
structure M1 (X:Cx) (o:Expr) (m:Str) (apos:Pos) (e:Expr) (cpos:Pos):Prop where
 base:attributeBase o m X.env (eval o X.env)=eval o X.env
 few:((backTo cpos (starEach [e] X.env)).all (fun x=> !x.1)&&(backToKw cpos (keywordEach [] X.env)).all (fun x=>x.1.isSome)
  &&decide (([e]:List Expr).length+ ([]:List Keyword).length+ (if ([]:List Keyword).isEmpty then 0 else 1)<30))=true
 line:(apos.endLine==cpos.line)=true
 trees:backTo cpos (starEach [e] X.env)= [(false,eval e X.env)]
structure M2 (X:Cx) (o:Expr) (m:Str) (apos:Pos) (e f:Expr) (cpos:Pos):Prop where
 base:attributeBase o m X.env (eval o X.env)=eval o X.env
 few:((backTo cpos (starEach [e,f] X.env)).all (fun x=> !x.1)&&(backToKw cpos (keywordEach [] X.env)).all (fun x=>x.1.isSome)
  &&decide (([e,f]:List Expr).length+ ([]:List Keyword).length+ (if ([]:List Keyword).isEmpty then 0 else 1)<30))=true
 line:(apos.endLine==cpos.line)=true
 trees:backTo cpos (starEach [e,f] X.env)= [(false,eval e X.env),(false,eval f X.env)]
def Ak(H:Hp)(a:Addr):Prop:=(∃kvs,Rd H a (.dK kvs))\/∃kvs,Rd H a (.dT kvs)
theorem Jk{X:Cx}{pins:bA}{σ:St}{H:Hp}{s:Shared}{a:Addr}(I:Inv X pins σ H s)(d:Ak H a):
  s.TypeIs (.ref a) "dict" /\ (∀b,Value.ref a= .ref b ->∃ob,s.heap.get? b=some ob/\ob.dict=none)/\ (a==sysModules)=false:=by
 rcases d with ⟨kvs,e⟩ | ⟨kvs,e⟩
 ·obtain⟨_,hd,vs,_,dd⟩:=uV I.hok e;refine⟨dd.typeIs,fun b q=> ?_,hd⟩;cases q;obtain⟨ob,_,_,h1,h2,_⟩:=dd;exact⟨ob,h1,h2.2.1⟩
 ·obtain⟨_,hd,xs,_,dd⟩:=uW I.hok e;refine⟨dd.typeIs,fun b q=> ?_,hd⟩;cases q;obtain⟨ob,_,_,h1,h2,_⟩:=dd;exact⟨ob,h1,h2.2.1⟩
section
variable{X:Cx}{pins:bA}{σ:St}{H:Hp}{s:Shared}{a:Addr}{y d:V}{u r:Value}{o:Option V}{A:Around}{E:bH}
theorem z35{Q:bH}(hu:A.units+1<cLine)(I:Inv X pins σ H s)(g:gQ H a y o)(ry:RelV y u)(rd:RelV d r)(h:∀w' s',Inv X pins σ H s' ->RelV (o.getD d) w' ->Q w' s'):
  wpAny (model X.prog X.w) A (call (.builtin "dict.get") [.ref a,u,r]) Q E s:=by
 rcases g with ⟨kvs,k,e,ey,l⟩ | ⟨kvs,k,b,e,ey,eb,l⟩
 ·subst ey;obtain⟨z,hd,vs,rel,dd⟩:=uV I.hok e;refine call_meetsIn PySem.F.slot_dict_get dd.typeIs PySem.F.entry_dict_get (PySem.F.args_dict_get_3 _ _ _) (meets_dict_get_default (iB X.prog X.w) a (Ai ry) hd r) ⟨_,dd.mapOf,h _ _ (I.tok _) ?_⟩;rw[l];exact(rel.val k).getD rd
 ·subst ey;cases (show u=Value.ref b from ry);obtain⟨z,hd,xs,rel,dd⟩:=uW I.hok e;refine call_meetsIn PySem.F.slot_dict_get dd.typeIs PySem.F.entry_dict_get (PySem.F.args_dict_get_3 _ _ _) (meetsH_dict_get_default (tupleKind (iB X.prog X.w)) a b hd r) ⟨tupleKind_room_in1 hu,k,xs,Aj I.hok eb,dd,h _ _ (I.tok _) ?_⟩;rw[l];exact(rel.val k).getD rd
end
def NT(td ty:TE):TE:=fun σ H Q=>td σ H fun x H1=>∃a,x= .ref a/\Ak H1 a/\ty σ H1 fun y H2=>∃o,gQ H2 a y o/\Q (o.getD .non) H2
def xU(td ty tx:TE):TE:=fun σ H Q=>td σ H fun x H1=>∃a,x= .ref a/\Ak H1 a/\ty σ H1 fun y H2=>tx σ H2 fun z H3=>∃o,gQ H3 a y o/\Q (o.getD z) H3
def NZ(td ty:TE):TE:=fun σ H Q=>td σ H fun x H1=>∃a,x= .ref a/\Ak H1 a/\ty σ H1 fun y H2=>∃kvs k v,H2 a=some (.dK kvs)/\y=kV k/\bY kvs k=some v/\Q v (upd H2 a (.dK (pU kvs k)))
def N5(td ty tx:TE):TE:=fun σ H Q=>td σ H fun x H1=>∃a,x= .ref a/\Ak H1 a/\ty σ H1 fun y H2=>tx σ H2 fun z H3=>∃kvs k,H3 a=some (.dK kvs)/\y=kV k/\
 (∀v,bY kvs k=some v ->Q v (upd H3 a (.dK (pU kvs k))))/\ (bY kvs k=none ->Q z H3)
section
variable{X:Cx}{o e f:Expr}{apos cpos:Pos}{td ty tx:TE}
theorem zxr(hu:X.A.units+1<cLine)(ho:PE X o td)(he:PE X e ty)(hf:PE X f tx)(m:M2 X o "get" apos e f cpos):PE X (.Call (.Attribute o "get" apos) [e,f] [] cpos) (xU td ty tx):=by
 intro pins s σ H Q I h;refine wpAny_Call_method m.base m.few m.line PySem.F.plainAttrs_dict PySem.F.slot_dict_get PySem.F.type_dict_get (bD (ho pins s σ H _ I h) fun u s1 N6=> ?_);obtain⟨x,H1,I1,rx,a,ex,d,q1⟩:=N6;subst ex;obtain rfl:u=Value.ref a:=rx;obtain⟨t1,t2,_⟩:=Jk I1 d;refine⟨t1,t2,?_⟩;rw[m.trees];refine Calls.callWith_builtin rfl (Calls.evalArgs_plain (Calls.spliced_cons (bD (he pins s1 σ H1 _ I1 q1) fun iv s2 ⟨y,H2,I2,ry,q2⟩=>
  Calls.spliced_cons (bD (hf pins s2 σ H2 _ I2 q2) fun fv s3 ⟨z,H3,I3,rz,ov,g,q3⟩=>Calls.spliced_nil ?_))))
 exact z35 hu I3 g ry rz fun w' s4 I4 jD =>⟨_,H3,I4,jD,q3⟩
end
section
variable{X:Cx}{pins:bA}{σ:St}{H:Hp}{s:Shared}{a:Addr}{kvs:List (Key×V)}{A:Around}{E:bH}
end
section
variable{X:Cx}{pins:bA}{σ:St}{H:Hp}{s:Shared}{a:Addr}{y:V}{u:Value}{A:Around}{E:bH}
end
end L2
namespace Wv
open PySem PySem.W PySem.Calls PyProof.Rows
theorem zif{P:Params}{h:Heap}:∀(ns:List Int) (vs:List Value),WellAll P h vs (ns.map WData.int) ->IntsAre vs ns:=by
 intro ns;induction ns with
 | nil=>
  intro vs w;rw[List.map_nil] at w;cases w;exact .nil
 | cons n ns ih=>
  intro vs w;rw[List.map_cons] at w;cases w with
  | cons a b=>
   cases a;exact .cons _ _ (ih _ b)
theorem zu8{l:OpenLaw}{n:Nat}(hn:l.most=some n){P:Params}{h:Heap}{args:List WData}{vals:List Value}
  (hpre:l.row.toRowW.claim.pre args=true) (hwl:WellAll P h vals args):
  ∃a vs ns,vals= [Value.ref a]/\args= [WData.list (ns.map WData.int)]/\h.get? a=some {cls:= .type "list",data:= .seq vs.toArray}/\IntsAre vs ns/\ns.length<=n:=by
 have hsh:WShape.hasAll [] args [.list .int]=true:=(pre_splitW hpre).1;have hc:l.pre.holds [] {args:=args}=true:=(pre_splitW hpre).2;obtain⟨d,r,rfl,h1,h2⟩:=hasAllW_cons hsh;obtain rfl:=hasAllW_nil h2;obtain⟨xs,rfl,h3⟩:=hasW_list h1;obtain⟨ns,rfl⟩:=items_int h3;have hlen:ns.length<=n:=by
  unfold OpenLaw.pre at hc;have h4:(WTm.not (.lt (.lit (.int (n:Int))) (.len (.arg 0)))).holds [] {args:= [.list (ns.map .int)]}=true:=by
   have h4:=(holds_andW hc).1;rw[hn] at h4;exact h4
  have h5:=condW_of h4 (w_not (w_lt w_lit (w_len_list (w_arg rfl))));rw[List.length_map] at h5;refine Nat.le_of_not_lt fun q=> ?_;have q' :(n:Int)< ((ns.length:Nat):Int):=by omega
  first
   | (rw[decide_eq_true q'] at h5;exact absurd h5 (by decide))
   | (simp at h5;omega)
 cases hwl with
 | cons w1 w2=>
  cases w2;cases w1 with
  | list ho hall=>exact⟨_,_,ns,rfl,rfl,ho,zif ns _ hall,hlen⟩
theorem zv1(l:OpenLaw)(args:List WData):l.row.toRowW.claim.post args (.bool true) args=true:=
 postW_of (r:=l.row.toRowW) (X:=(true==true))
  (show WShape.has [] (.bool true) .bool=true by first | rfl | decide | simp [WShape.has,WShape.arms,WShape.armsAll])
  (show(WTm.eq .res (.lit (.bool true))).value [] {args:=args,res:=some (.bool true),after:=args}=some (.bool (true==true)) from w_eq_bool (w_res rfl) w_lit) rfl
theorem nM{l:OpenLaw}{n:Nat}{q:Program}{loose:List Str}{XP:(Str ->Option Value) ->Heap ->Prop}{YP:World ->Heap ->Prop}{d:DefRec}
  (hn:l.most=some n) (hdf:d.params.defaults= [])
  (call:∀(w:World) (s₀ s₁:Shared) (mg mb:Str ->Option Value) (fa:Addr) (o:Obj) (pm cd doc:Value) (a:Addr) (vs:List Value) (ns:List Int),
   Ground q loose [] XP w s₀ mg mb s₁.heap ->YP w s₁.heap ->
   s₁.heap.get? fa=some o ->o.data= .func (docDef d.name d.params d.body d.scope pm cd doc) ->s₁.heap.CodeRec cd d.name ->mg d.name=some (.ref fa) ->
   s₁.heap.get? a=some {cls:= .type "list",data:= .seq vs.toArray} ->IntsAre vs ns ->ns.length<=n ->s₁.gens= #[] ->
   codeAny (model l.prog w) callerA (.call (.ref fa) ⟨[.ref a],[]⟩) (fun r s' =>r= .ok (.ret (.bool true))/\OldK s₁.heap s'.heap/\s'.os=s₁.os/\AllBare s'.gens) s₁):
  WalkO q loose XP YP l.row.toRowW d [] (fun f vs=>PySem.call f vs):=by
 intro w s₀ s₁ mg mb G Y fa o pm cd doc dV kV ho hd hcd hD hmg hg args vals as hpre hlay hrd hwl hlo;obtain rfl:dV= .none:=Dflts.none hD hdf;obtain rfl:kV= .none:=Dflts.noKw hD;obtain⟨a,vs,ns,rfl,rfl,hobj,hints,hlen⟩:=zu8 hn hpre hwl;refine enter_call (codeAny_mono (call w s₀ s₁ mg mb fa o pm cd doc a vs ns G Y ho (fd_plain hd) hcd hmg hobj hints hlen hg) fun r s' hq=> ?_);obtain⟨rfl,h2,h3,h4⟩:=hq;exact⟨.inl ⟨.bool true,.bool true,[],rfl,fun _=>rfl,.bool true,zv1 l _,fun _=>⟨List.Pairwise.nil,fun _ hm=>(nomatch hm)⟩⟩,h2,h3,h4⟩
section
variable{prog:Program}{w:World}{A:Around}{E:bH}{s:Shared}{K:Frag}
def N7(h:Heap):Heap:={h with objs:= #[]}
def ledger(h:Heap)(L d:Addr):bA:=(List.range h.objs.size).filterMap fun a=>if a=L\/a=d then none else(h.get? a).map fun o=>(a,o)
end
end Wv
namespace L2
open PySem PySem.Spec PyProof.Rows
theorem Ww:∀{vs:List Value} {ns:List Int},IntsAre vs ns ->Vals (ns.map V.int) vs
 | _,_,.nil=> .nil
 | _,_,.cons n t h=> .cons ⟨t,rfl⟩ (Ww h)
def Only(H:Hp):Prop:=∀b,H b=none\/∃o xs,H b=some (.frz o (.lst xs))
theorem zyq{P:Program}{w:World}{K:W.Frag}{mg mb:Str ->Option Value}{CX:qy}{k:Nat}{fa a:Addr}{fd:FuncData}{x:Str}{sp:Sp}{s₁:Shared}{vs:List Value}{ns:List Int}
  (KX:K.In s₁.heap) (hns:s₁.heap.Ns mainGlobals mg) (hb:s₁.heap.Ns builtinsNs mb) (hbb:∀x:Str,x≠ "__name__" ->mb x=bootBuiltins x) (hlim:s₁.heap.NoLimit) (hg:s₁.gens= #[])
  (ha:s₁.heap.get? a=some {cls:= .type "list",data:= .seq vs.toArray}) (hi:IntsAre vs ns) (hl:ns.length<=sizeLine) (hr:eN k callerA)
  (F:∀base:Heap,K.In base ->base.Ns mainGlobals mg ->dX P w K mg base CX k fa fd [x] sp) (hbind:∀(s:Shared) (u:Value),BindsTo s fd ⟨[u],[]⟩ [(x,u)])
  (hsp:∀H:Hp,Only H ->fL K H a (ns.map V.int) ->sp [.ref a] H (fun v _=>v= .bl true) fun _ _ _=>False)
  (N8:∀H e s',CX [] H s₁ (fun _ _ _=>False) e s' ->False):
  codeAny (model P w) callerA (.call (.ref fa) ⟨[.ref a],[]⟩) (fun r s' =>r= .ok (.ret (.bool true))/\OldK s₁.heap s'.heap/\s'.os=s₁.os/\AllBare s'.gens) s₁:=by
 have rv:=Ww hi;have lenV:=hi.length
 
 have core:∀H:Hp,Only H ->fL K H a (ns.map V.int) ->gP P w H s₁.heap ->(∀b,H b≠none ->b=a) ->(H a≠none ->K.lookup a=none) ->
   codeAny (model P w) callerA (.call (.ref fa) ⟨[.ref a],[]⟩) (fun r s' =>r= .ok (.ret (.bool true))/\OldK s₁.heap s'.heap/\s'.os=s₁.os/\AllBare s'.gens) s₁:=by
  intro H hO hS hok hA hK;have pW:∀{b:Addr} {o:Obj},s₁.heap.get? b=some o ->H b=none ->(mR s₁.heap H).get? b=some o:=fun e n=>zyv e n;have Dr:∀{b:Addr} {o:Obj} {es:Array DictEntry} {ep:Nat},s₁.heap.get? b=some o ->o.data= .dict es ep ->H b=none:=fun{b o es ep} e d=>by
   cases q:H b with
   | none=>rfl
   | some u=>
    have e' :b=a:=hA b (by rw[q];simp)
    subst e';rw[ha] at e;cases e;have d' :Data.seq vs.toArray _=Data.dict es ep:=d;cases d'
  have Jl:∀{b:Addr} {m:Str ->Option Value},s₁.heap.Ns b m ->(mR s₁.heap H).Ns b m:=fun{b m} DN=>by obtain⟨o,es,ep,e,d,r⟩:=DN;exact⟨o,es,ep,pW e (Dr e d),d,r⟩
  have Wx:K.In (mR s₁.heap H):=fun b o e=>pW (KX b o e) (by
   cases q:H b with
   | none=>rfl
   | some u=>
    have e' :b=a:=hA b (by rw[q];simp)
    subst e';rw[hK (by rw[q];simp)] at e;cases e)
  have hM:Mod K mg (mR s₁.heap H):=⟨Wx,Jl hns,⟨mb,Jl hb,hbb⟩,let ⟨mc,h1,h2⟩:=hlim;⟨mc,Jl h1,h2⟩⟩;have e0:uQ P w K mg (mR s₁.heap H) callerA [] s₁ H:=⟨rfl,hM,fun b o e=>z0c e,Nat.le_of_eq (zr1 _ _),trivial,fun b hb=>absurd (show b∈ ([]:List Addr) from hb) (by simp),hok,.of_eq hg⟩
  refine codeAny_mono ((F _ Wx (Jl hns)).run callerA [] s₁ H ⟨[.ref a],[]⟩ [.ref a] [.ref a] _ _ hr e0 (hbind s₁ (.ref a)) (.cons rfl .nil) (hsp H hO hS)) fun r s' h=> ?_;cases r with
  | error e=>exact(N8 H e s' h).elim
  | ok fl=>
   cases fl with
   | next=>exact False.elim h
   | brk=>exact False.elim h
   | cont=>exact False.elim h
   | ret u=>
    obtain⟨v,H',os,bare,un,hok',r',q⟩:=h;have q' :v= .bl true:=q;subst q';obtain rfl:u=Value.bool true:=r';refine⟨rfl,OldK.of_keep fun b o e=> ?_,os,bare⟩;cases q:H b with
    | none=>exact un.keep b o e q (by intro z;exact absurd (show b∈ ([]:List Addr) from z) (by simp)) (by simp)
    | some u=>
     rcases hO b with z | ⟨ob,xs,z⟩
     ·rw[q] at z;cases z
     ·have z2:=un.lO b ob _ z;obtain⟨e1,_⟩:=hok b _ z;obtain⟨e2,_⟩:=hok' b _ z2;rw[e] at e1;cases e1;exact e2
 cases hk:K.lookup a with
 | some o=>
  
  have e:=KX a o hk;rw[ha] at e;cases e;refine core (fun _=>none) (fun _=> .inl rfl) (.inr ⟨_,vs.toArray,_,hk,rfl,rfl,rfl,by rw[List.size_toArray,lenV];exact hl,by simpa using rv⟩) (fun b u z=>by have z' :(none:Option HO)=some u:=z;cases z') (fun b z=>absurd rfl z) fun z=>absurd rfl z
 | none=>
  refine core (fun b=>if b=a then some (.frz {cls:= .type "list",data:= .seq vs.toArray} (.lst (ns.map V.int))) else none) (fun b=> ?_) (.inl (.inr ⟨{cls:= .type "list",data:= .seq vs.toArray},if_pos rfl⟩)) (fun b u z=> ?_) (fun b z=> ?_) fun _=>hk
  ·by_cases hb:b=a
   ·exact .inr ⟨_,_,if_pos hb⟩
   ·exact .inl (if_neg hb)
  ·by_cases hb:b=a
   ·have z' :=(if_pos hb).symm.trans z;cases z';subst hb;exact⟨ha,by rw[List.length_map];exact hl,vs,_,rv,ha⟩
   ·have z' :=(if_neg hb).symm.trans z;cases z'
  ·by_cases hb:b=a
   ·exact hb
   ·exact absurd (if_neg hb) z
abbrev KOf{K:W.Frag}{h:Heap}(_:K.In h):W.Frag:=K
def z5l(s:Stmt)(j:Nat):Stmt:=match s with
 | .ClassDef _ _ _ body _ _ _ _ _ _ _=>body.getD j (.Pass ⟨0,0,0,0⟩)
 | _=> .Pass ⟨0,0,0,0⟩
def uX(s:Stmt):Arguments:=match s with
 | .FunctionDef _ a _ _ _ _ _ _ _ _=>a
 | _=>{posonlyargs:= [],args:= [],vararg:=none,kwonlyargs:= [],kw_defaults:= [],kwarg:=none,defaults:= []}
def rJ(s:Stmt):List Stmt:=match s with
 | .FunctionDef _ _ b _ _ _ _ _ _ _=>b
 | _=> []
def bU(s:Stmt):Scope:=match s with
 | .FunctionDef _ _ _ _ _ _ sc _ _ _=>sc
 | _=>{kind:= .function,names:= [],isGenerator:=false,isCoroutine:=false}
abbrev CX0:qy:=fun _ _ _ _ _ _=>False
abbrev E0:XK:=fun _ _ _=>False
structure fM (K:W.Frag) (x qual:Str) (st:Stmt) (f:Addr) (fd:FuncData):Prop where
 ex:∃(oc:Value) (od:Option Addr) (kV doc pm:Value) (an:Option Addr) (cdv ct:Value) (osl:Array (Option Value)),
  fd=W.fnOf x qual (uX st) (rJ st) (bU st) .none kV doc pm an cdv ct/\K.lookup f=some ⟨oc,od,.func fd,osl⟩/\W.codeIn K cdv qual=true
 kp:W.keepIn K (.ref f)=true
section
variable{P:Program}{w:World}{K:W.Frag}{mg:Str ->Option Value}{base:Heap}
theorem fM.binds{x qual:Str}{st:Stmt}{f:Addr}{fd:FuncData}{ps:List Str}(F:fM K x qual st f fd)
  (h:∀(kV doc pm:Value) (an:Option Addr) (cdv ct:Value) (us:List Value),us.length=ps.length ->bindArgs (W.fnOf x qual (uX st) (rJ st) (bU st) .none kV doc pm an cdv ct) ⟨us,[]⟩=pure (ps.zip us)):Binds K fd ps []:=by
 obtain⟨oc,od,kV,doc,pm,an,cdv,ct,osl,rfl,lk,hcd⟩:=F.ex;exact .all (h kV doc pm an cdv ct)
end
section
variable{X:Cx}
end
def Same(H H' :Hp):Prop:=∀b o,H b=some o ->H' b=some o
theorem Same.refl(H:Hp):Same H H:=fun _ _ h=>h
theorem Same.trans{H H1 H2:Hp}(a:Same H H1)(b:Same H1 H2):Same H H2:=fun c o h=>b c o (a c o h)
theorem Same.free{H H' :Hp}(e:Same H H'){l:Addr}(h:H' l=Option.none):H l=Option.none:=by
 cases q:H l with
 | none=>rfl
 | some o=>
  rw[e l o q] at h;cases h
theorem Same.seq{K:W.Frag}{H H' :Hp}{a:Addr}{xs:List V}(e:Same H H')(h:fL K H a xs):fL K H' a xs:=by
 rcases h with (h | ⟨o,h⟩) | h
 ·exact .inl (.inl (e _ _ h))
 ·exact .inl (.inr ⟨o,e _ _ h⟩)
 ·exact .inr h
section
variable{X:Cx}
end
section
variable{κ:Type}[DecidableEq κ]
end
end L2
namespace L3
open PySem PySem.Spec PyProof.Rows L2
abbrev St:=L2.St
inductive D where
 | non | bl (b:Bool) | int (i:Int) | str (x:Str) | tup (xs:List D) | lst (xs:List D) | exc (C:Addr) | ptr (a:Addr)
 | obj (C:Addr) (fs:List Str) (xs:List D) | dic (ks:List Key) (xs:List D) | dG (ks:List (List Key)) (xs:List D) | nO (ks:List Key) (xs:List D)
def DP(a C:Addr):HO:= .ext fun h=>∃o vs,h.get? a=some o/\o.cls= .ref C/\o.data= .fields vs/\vs[2]?=some Value.none
def Oa(F:Hp)(a:Addr):Prop:=∃o C,F a=some (.frz o (DP a C))
mutual
def Rep(K:W.Frag)(F:Hp):D ->V ->Prop
 | .non,v=>v= .non
 | .bl b,v=>v= .bl b
 | .int i,v=>v= .int i
 | .str x,v=>v= .str x
 | .tup ds,v=>∃a vs,v= .ref a/\iQ K F a vs/\ak K F ds vs
 | .lst ds,v=>∃a vs,v= .ref a/\fL K F a vs/\ak K F ds vs
 | .exc C,v=>∃a o,v= .ref a/\F a=some (.frz o (DP a C))
 | .ptr a,v=>v= .ref a
 | .obj C fs ds,v=>∃a dx vs,v= .ref a/\F a=some (.ins C dx (fs.zip vs))/\fs.length=vs.length/\ak K F ds vs
 | .dic ks ds,v=>∃a vs,v= .ref a/\F a=some (.dK (ks.zip vs))/\ks.length=vs.length/\ak K F ds vs
 | .dG ks ds,v=>∃a vs,v= .ref a/\F a=some (.dT (ks.zip vs))/\ks.length=vs.length/\ak K F ds vs
 | .nO ks ds,v=>∃a o vs,v= .ref a/\F a=some (.frz o (.dK (ks.zip vs)))/\ks.length=vs.length/\ak K F ds vs
def ak(K:W.Frag)(F:Hp):List D ->List V ->Prop
 | [],vs=>vs= []
 | d::ds,vs=>∃v r,vs=v::r/\Rep K F d v/\ak K F ds r
end
theorem j4{K:W.Frag}{H H' :Hp}{a:Addr}{xs:List V}(e:Same H H')(h:iQ K H a xs):iQ K H' a xs:=by
 rcases h with (h | ⟨o,h⟩) | h
 ·exact .inl (.inl (e _ _ h))
 ·exact .inl (.inr ⟨o,e _ _ h⟩)
 ·exact .inr h
mutual
theorem Wy{K:W.Frag}{F F' :Hp}(e:Same F F'):∀(d:D) (v:V),Rep K F d v ->Rep K F' d v
 | .non,_,h=>by unfold Rep at h⊢;exact h
 | .bl _,_,h=>by unfold Rep at h⊢;exact h
 | .int _,_,h=>by unfold Rep at h⊢;exact h
 | .str _,_,h=>by unfold Rep at h⊢;exact h
 | .tup ds,_,h=>by
  unfold Rep at h⊢;obtain⟨a,vs,h0,h1,h2⟩:=h;exact⟨a,vs,h0,j4 e h1,vU e ds vs h2⟩
 | .lst ds,_,h=>by
  unfold Rep at h⊢;obtain⟨a,vs,h0,h1,h2⟩:=h;exact⟨a,vs,h0,e.seq h1,vU e ds vs h2⟩
 | .ptr _,_,h=>by unfold Rep at h⊢;exact h
 | .exc C,_,h=>by
  unfold Rep at h⊢;obtain⟨a,o,h0,h1⟩:=h;exact⟨a,o,h0,e _ _ h1⟩
 | .obj C fs ds,_,h=>by
  unfold Rep at h⊢;obtain⟨a,dx,vs,h0,h1,h3,h4⟩:=h;exact⟨a,dx,vs,h0,e _ _ h1,h3,vU e ds vs h4⟩
 | .dic ks ds,_,h=>by
  unfold Rep at h⊢;obtain⟨a,vs,h0,h1,h3,h4⟩:=h;exact⟨a,vs,h0,e _ _ h1,h3,vU e ds vs h4⟩
 | .dG ks ds,_,h=>by
  unfold Rep at h⊢;obtain⟨a,vs,h0,h1,h3,h4⟩:=h;exact⟨a,vs,h0,e _ _ h1,h3,vU e ds vs h4⟩
 | .nO ks ds,_,h=>by
  unfold Rep at h⊢;obtain⟨a,o,vs,h0,h1,h3,h4⟩:=h;exact⟨a,o,vs,h0,e _ _ h1,h3,vU e ds vs h4⟩
theorem vU{K:W.Frag}{F F' :Hp}(e:Same F F'):∀(ds:List D) (vs:List V),ak K F ds vs ->ak K F' ds vs
 | [],_,h=>by unfold ak at h⊢;exact h
 | d::ds,_,h=>by
  unfold ak at h⊢;obtain⟨v,r,h0,h1,h2⟩:=h;exact⟨v,r,h0,Wy e d v h1,vU e ds r h2⟩
end
theorem Rep.up{K:W.Frag}{F F' :Hp}{d:D}{v:V}(h:Rep K F d v)(e:Same F F'):Rep K F' d v:=Wy e d v h
theorem ak.up{K:W.Frag}{F F' :Hp}{ds:List D}{vs:List V}(h:ak K F ds vs)(e:Same F F'):ak K F' ds vs:=vU e ds vs h
theorem fY{K:W.Frag}{F:Hp}:∀{ds:List D} {vs:List V},ak K F ds vs ->ds.length=vs.length
 | [],_,h=>by unfold ak at h;subst h;rfl
 | _::_,_,h=>by
  unfold ak at h;obtain⟨v,r,rfl,_,h2⟩:=h;simp only [List.length_cons,fY h2]
theorem nP{K:W.Frag}{F:Hp}:∀{ds:List D} {vs:List V} {i:Nat} {d:D},ak K F ds vs ->ds[i]?=some d ->∃v,vs[i]?=some v/\Rep K F d v
 | [],_,_,_,_,e=>by simp at e
 | _::_,_,0,_,h,e=>by
  unfold ak at h;obtain⟨v,r,rfl,h1,_⟩:=h;simp at e;subst e;exact⟨v,rfl,h1⟩
 | _::_,_,i+1,d,h,e=>by
  unfold ak at h;obtain⟨v,r,rfl,_,h2⟩:=h;obtain⟨u,e1,e2⟩:=nP (i:=i) h2 (by simpa using e)
  exact⟨u,by simpa using e1,e2⟩
theorem Wz{K:W.Frag}{F:Hp}:∀{ds:List D} {vs:List V} {i:Nat} {v:V},ak K F ds vs ->vs[i]?=some v ->∃d,ds[i]?=some d/\Rep K F d v
 | [],_,_,_,h,e=>by unfold ak at h;subst h;simp at e
 | d::_,_,0,_,h,e=>by
  unfold ak at h;obtain⟨v,r,rfl,h1,_⟩:=h;simp at e;subst e;exact⟨d,rfl,h1⟩
 | _::_,_,i+1,v,h,e=>by
  unfold ak at h;obtain⟨v',r,rfl,_,h2⟩:=h;obtain⟨u,e1,e2⟩:=Wz (i:=i) h2 (by simpa using e)
  exact⟨u,by simpa using e1,e2⟩
theorem xV{K:W.Frag}{F:Hp}:∀{ds es:List D} {vs us:List V},ak K F ds vs ->ak K F es us ->ak K F (ds++es) (vs++us)
 | [],_,_,_,h,k=>by unfold ak at h;subst h;exact k
 | _::_,_,_,_,h,k=>by
  unfold ak at h;obtain⟨v,r,rfl,h1,h2⟩:=h;show ak K F (_::(_++_)) _;unfold ak;exact⟨v,_,rfl,h1,xV h2 k⟩
theorem DQ{K:W.Frag}{F:Hp}{d:D}{v:V}(h:Rep K F d v):ak K F [d] [v]:=by
 unfold ak;exact⟨v,[],rfl,h,by unfold ak;rfl⟩
theorem oU{K:W.Frag}{F:Hp}{d:D}{v:V}{ds:List D}{vs:List V}(h:Rep K F d v)(k:ak K F ds vs):ak K F (d::ds) (v::vs):=by
 unfold ak;exact⟨v,vs,rfl,h,k⟩
theorem WD{K:W.Frag}{F:Hp}:∀{ds:List D} {vs:List V} (n:Nat),ak K F ds vs ->ak K F (ds.take n) (vs.take n)
 | _,_,0,_=>by simp [ak]
 | [],_,_+1,h=>by unfold ak at h;subst h;simp [ak]
 | _::_,_,n+1,h=>by
  unfold ak at h;obtain⟨u,r,rfl,h1,h2⟩:=h;exact oU h1 (WD n h2)
theorem WK{K:W.Frag}{F:Hp}:∀{ds:List D} {vs:List V} (n:Nat),ak K F ds vs ->ak K F (ds.drop n) (vs.drop n)
 | _,_,0,h=>h
 | [],_,_+1,h=>by unfold ak at h;subst h;simp [ak]
 | _::_,_,n+1,h=>by
  unfold ak at h;obtain⟨u,r,rfl,h1,h2⟩:=h;exact WK n h2
def rK(H:Hp)(b:Addr)(o:HO):Prop:=H b=none\/ (∃xs,o= .tup xs)/\H b=some o
theorem rK.back(s:Same H H1)(h:rK H1 b o):rK H b o:=by
 rcases h with h | ⟨⟨xs,e⟩,h⟩
 ·exact .inl (s.free h)
 ·cases q:H b with
  | none=>exact .inl q
  | some u=>
   have:=s _ _ q;rw[h] at this;cases this;exact .inr ⟨⟨xs,e⟩,q⟩
structure Gr (F H F' H' :Hp):Prop where
 f:Same F F'
 g:Same F' H'
 h:Same H H'
 n:∀b o,F' b=some o ->F b=none ->rK H b o
theorem Gr.refl(h:Same F H):Gr F H F H:=⟨.refl _,h,.refl _,fun b o e n=>by rw[e] at n;cases n⟩
theorem Gr.trans(a:Gr F H F1 H1)(b:Gr F1 H1 F2 H2):Gr F H F2 H2:=by
 refine⟨a.f.trans b.f,b.g,a.h.trans b.h,fun c o e n=> ?_⟩;cases q:F1 c with
 | none=>exact rK.back a.h (b.n c o e q)
 | some u=>have:=b.f _ _ q;rw[e] at this;cases this;exact a.n c _ q n
theorem Gr.laid(h:Same F H)(hp:H p=none):Gr F H (L2.upd F p o) (L2.upd H p o):=by
 refine⟨fun b u e=> ?_,fun b u e=> ?_,fun b u e=> ?_,fun b u e n=> ?_⟩
 ·rw[cQ (jV (h b u e) hp)];exact e
 ·by_cases hb:b=p
  ·subst hb;rw[jL] at e⊢;exact e
  ·rw[cQ hb] at e⊢;exact h b u e
 ·rw[cQ (jV e hp)];exact e
 ·by_cases hb:b=p
  ·subst hb;exact .inl hp
  ·rw[cQ hb,n] at e;cases e
inductive T where
 | leaf (d:D) | lst (ts:List T) | dic (ks:List L2.Key) (ts:List T) | dG (ks:List (List L2.Key)) (ts:List T) | ob (C:Addr) (fs:List Str) (ts:List T) | kt (k:List L2.Key)
def bO:Key ->D | .inl i=> .int i | .inr x=> .str x
def rM(fs:List Str):Bool:= !decide (fs= [("points" :Str)])
mutual
def TR(K:W.Frag)(F H:Hp):T ->V ->List Addr ->Prop
 | .leaf d,v,as=>as= []/\Rep K F d v
 | .lst ts,v,as=>∃a vs bs,v= .ref a/\as=a::bs/\H a=some (.lst vs)/\cJ K F H ts vs bs
 | .dic ks ts,v,as=>∃a vs bs,v= .ref a/\as=a::bs/\H a=some (.dK (ks.zip vs))/\ks.length=vs.length/\cJ K F H ts vs bs
 | .dG ks ts,v,as=>∃a vs bs,v= .ref a/\as=a::bs/\H a=some (.dT (ks.zip vs))/\ks.length=vs.length/\cJ K F H ts vs bs
 | .ob C fs ts,v,as=>∃a dx vs bs,v= .ref a/\as=a::dx::bs/\H a=some (.ins C dx (fs.zip vs))/\H dx=some (.own a)/\fs.length=vs.length/\rM fs=true/\cJ K F H ts vs bs
 | .kt k,v,as=>as= []/\∃a,v= .ref a/\F a=some (.tup (k.map kV))
def cJ(K:W.Frag)(F H:Hp):List T ->List V ->List Addr ->Prop
 | [],vs,as=>vs= []/\as= []
 | t::ts,vs,as=>∃v us bs cs,vs=v::us/\as=bs++cs/\TR K F H t v bs/\cJ K F H ts us cs
end
section
variable{K:W.Frag}{F H F' H' :Hp}
mutual
theorem TR.move(f:Same F F'):∀(t:T) (v:V) (as:List Addr),(∀a∈as,∀u,H a=some u ->H' a=some u) ->TR K F H t v as ->TR K F' H' t v as
 | .leaf d,v,as,k,h=>by unfold TR at h⊢;exact⟨h.1,h.2.up f⟩
 | .lst ts,v,as,k,h=>by
  unfold TR at h⊢;obtain⟨a,vs,bs,e1,rfl,e3,h⟩:=h;exact⟨a,vs,bs,e1,rfl,k a zY _ e3,cJ.move f ts vs bs (fun b hb=>k b (zX _ hb)) h⟩
 | .dic ks ts,v,as,k,h=>by
  unfold TR at h⊢;obtain⟨a,vs,bs,e1,rfl,e3,e4,h⟩:=h;exact⟨a,vs,bs,e1,rfl,k a zY _ e3,e4,cJ.move f ts vs bs (fun b hb=>k b (zX _ hb)) h⟩
 | .dG ks ts,v,as,k,h=>by
  unfold TR at h⊢;obtain⟨a,vs,bs,e1,rfl,e3,e4,h⟩:=h;exact⟨a,vs,bs,e1,rfl,k a zY _ e3,e4,cJ.move f ts vs bs (fun b hb=>k b (zX _ hb)) h⟩
 | .ob C fs ts,v,as,k,h=>by
  unfold TR at h⊢;obtain⟨a,dx,vs,bs,e1,rfl,e3,e4,e5,e6,h⟩:=h;exact⟨a,dx,vs,bs,e1,rfl,k a zY _ e3,k dx (zX _ zY) _ e4,e5,e6,cJ.move f ts vs bs (fun b hb=>k b (zX _ (zX _ hb))) h⟩
 | .kt _,v,as,k,h=>by unfold TR at h⊢;obtain⟨e,a,e1,e2⟩:=h;exact⟨e,a,e1,f _ _ e2⟩
theorem cJ.move(f:Same F F'):∀(ts:List T) (vs:List V) (as:List Addr),(∀a∈as,∀u,H a=some u ->H' a=some u) ->cJ K F H ts vs as ->cJ K F' H' ts vs as
 | [],vs,as,k,h=>by unfold cJ at h⊢;exact h
 | t::ts,vs,as,k,h=>by
  unfold cJ at h⊢;obtain⟨v,us,bs,cs,e1,rfl,h1,h2⟩:=h;exact⟨v,us,bs,cs,e1,rfl,TR.move f t v bs (fun b hb=>k b (zQ _ hb)) h1,cJ.move f ts us cs (fun b hb=>k b (zR _ hb)) h2⟩
end
def LD(u:HO):Prop:=(∃vs,u= .lst vs)\/ (∃kvs,u= .dK kvs)\/ (∃kvs,u= .dT kvs)\/ (∃C dx kvs,u= .ins C dx kvs/\rM (kvs.map (·.1))=true)\/∃a,u= .own a
theorem WL:∀{fs:List Str} {vs:List V},fs.length=vs.length ->(fs.zip vs).map (·.1)=fs
 | [],_,_=>rfl
 | _::_,[],h=>by cases h
 | f::fs,v::vs,h=>by rw[List.zip_cons_cons,List.map_cons,WL (by simpa using h)]
theorem LD.tup(h:LD (.tup xs)):False:=by rcases h with ⟨_,z⟩ | ⟨_,z⟩ | ⟨_,z⟩ | ⟨_,_,_,z,_⟩ | ⟨_,z⟩<;>cases z
mutual
theorem TR.there:∀(t:T) (v:V) (as:List Addr),TR K F H t v as ->∀a∈as,∃u,H a=some u/\LD u
 | .leaf d,v,as,h,a,ha=>by unfold TR at h;rw[h.1] at ha;cases ha
 | .lst ts,v,as,h,a,ha=>by
  unfold TR at h;obtain⟨b,vs,bs,e1,rfl,e3,h⟩:=h;rcases zV.mp ha with rfl | ha
  ·exact⟨_,e3,.inl ⟨_,rfl⟩⟩
  ·exact cJ.there ts vs bs h a ha
 | .dic ks ts,v,as,h,a,ha=>by
  unfold TR at h;obtain⟨b,vs,bs,e1,rfl,e3,_,h⟩:=h;rcases zV.mp ha with rfl | ha
  ·exact⟨_,e3,.inr (.inl ⟨_,rfl⟩)⟩
  ·exact cJ.there ts vs bs h a ha
 | .dG ks ts,v,as,h,a,ha=>by
  unfold TR at h;obtain⟨b,vs,bs,e1,rfl,e3,_,h⟩:=h;rcases zV.mp ha with rfl | ha
  ·exact⟨_,e3,.inr (.inr (.inl ⟨_,rfl⟩))⟩
  ·exact cJ.there ts vs bs h a ha
 | .ob C fs ts,v,as,h,a,ha=>by
  unfold TR at h;obtain⟨b,dx,vs,bs,e1,rfl,e3,e4,e5,e6,h⟩:=h;rcases zV.mp ha with rfl | ha
  ·exact⟨_,e3,.inr (.inr (.inr (.inl ⟨_,_,_,rfl,by rw[WL e5];exact e6⟩)))⟩
  ·rcases zV.mp ha with rfl | ha
   ·exact⟨_,e4,.inr (.inr (.inr (.inr ⟨_,rfl⟩)))⟩
   ·exact cJ.there ts vs bs h a ha
 | .kt _,v,as,h,a,ha=>by unfold TR at h;rw[h.1] at ha;cases ha
theorem cJ.there:∀(ts:List T) (vs:List V) (as:List Addr),cJ K F H ts vs as ->∀a∈as,∃u,H a=some u/\LD u
 | [],vs,as,h,a,ha=>by unfold cJ at h;rw[h.2] at ha;cases ha
 | t::ts,vs,as,h,a,ha=>by
  unfold cJ at h;obtain⟨v,us,bs,cs,e1,rfl,h1,h2⟩:=h;rcases zU.mp ha with ha | ha
  ·exact TR.there t v bs h1 a ha
  ·exact cJ.there ts us cs h2 a ha
end
end
mutual
def toD:T ->D
 | .leaf d=>d
 | .lst ts=> .lst (eO ts)
 | .dic ks ts=> .dic ks (eO ts)
 | .dG ks ts=> .dG ks (eO ts)
 | .ob C fs ts=> .obj C fs (eO ts)
 | .kt k=> .tup (k.map bO)
def eO:List T ->List D
 | []=> []
 | t::ts=>toD t::eO ts
end
theorem Jm{K:W.Frag}{F:Hp}:∀ks:List Key,ak K F (ks.map bO) (ks.map kV)
 | []=>by unfold List.map ak;rfl
 | .inl i::ks=>oU (by unfold bO Rep;rfl) (Jm ks)
 | .inr x::ks=>oU (by unfold bO Rep;rfl) (Jm ks)
section
variable{K:W.Frag}{F H F' :Hp}
mutual
theorem TR.rep(f:Same F F'):∀(t:T) (v:V) (as:List Addr),(∀a∈as,∀u,H a=some u ->F' a=some u) ->TR K F H t v as ->Rep K F' (toD t) v
 | .leaf d,v,as,k,h=>by unfold TR at h;unfold toD;exact h.2.up f
 | .lst ts,v,as,k,h=>by
  unfold TR at h;obtain⟨a,vs,bs,e1,rfl,e3,h⟩:=h;unfold toD Rep;exact⟨a,vs,e1,.inl (.inl (k a zY _ e3)),cJ.rep f ts vs bs (fun b hb=>k b (zX _ hb)) h⟩
 | .dic ks ts,v,as,k,h=>by
  unfold TR at h;obtain⟨a,vs,bs,e1,rfl,e3,e4,h⟩:=h;unfold toD Rep;exact⟨a,vs,e1,k a zY _ e3,e4,cJ.rep f ts vs bs (fun b hb=>k b (zX _ hb)) h⟩
 | .dG ks ts,v,as,k,h=>by
  unfold TR at h;obtain⟨a,vs,bs,e1,rfl,e3,e4,h⟩:=h;unfold toD Rep;exact⟨a,vs,e1,k a zY _ e3,e4,cJ.rep f ts vs bs (fun b hb=>k b (zX _ hb)) h⟩
 | .ob C fs ts,v,as,k,h=>by
  unfold TR at h;obtain⟨a,dx,vs,bs,e1,rfl,e3,e4,e5,e6,h⟩:=h;unfold toD Rep;exact⟨a,dx,vs,e1,k a zY _ e3,e5,cJ.rep f ts vs bs (fun b hb=>k b (zX _ (zX _ hb))) h⟩
 | .kt k,v,as,_,h=>by
  unfold TR at h;obtain⟨_,a,e1,e2⟩:=h;unfold toD Rep;exact⟨a,_,e1,.inl (.inl (f _ _ e2)),Jm k⟩
theorem cJ.rep(f:Same F F'):∀(ts:List T) (vs:List V) (as:List Addr),(∀a∈as,∀u,H a=some u ->F' a=some u) ->cJ K F H ts vs as ->ak K F' (eO ts) vs
 | [],vs,as,k,h=>by unfold cJ at h;unfold eO ak;exact h.1
 | t::ts,vs,as,k,h=>by
  unfold cJ at h;obtain⟨v,us,bs,cs,e1,rfl,h1,h2⟩:=h;unfold eO ak;exact⟨v,us,e1,TR.rep f t v bs (fun b hb=>k b (zQ _ hb)) h1,cJ.rep f ts us cs (fun b hb=>k b (zR _ hb)) h2⟩
end
end
inductive Slot where
 | no | pu (d:D) | ow (ds:List D) | tr (as:List Addr) (t:T)
def iR(K:W.Frag)(F H H0:Hp):Slot ->Option V ->Prop
 | .no,_=>True
 | .pu d,o=>∃v,o=some v/\Rep K F d v
 | .ow ds,o=>∃a vs,o=some (.ref a)/\H a=some (.lst vs)/\F a=none/\H0 a=none/\ak K F ds vs
 | .tr as t,o=>∃v,o=some v/\as.Nodup/\ (∀b∈as,F b=none/\H0 b=none)/\TR K F H t v as
def dY:Slot ->Option V ->Addr ->Prop
 | .ow _,o,a=>o=some (.ref a)
 | .tr as _,_,a=>a∈as
 | _,_,_=>False
def iT(Γ:List Slot)(σ:St)(i:Nat)(a:Addr):Prop:=∃s o,Γ[i]?=some s/\σ[i]?=some o/\dY s o a
structure SR (K:W.Frag) (F0 H0 F H:Hp) (σ:St) (Γ:List Slot):Prop where
 gr:Gr F0 H0 F H
 len:σ.length=Γ.length
 sl:∀(i:Nat) s,Γ[i]?=some s ->∃o,σ[i]?=some o/\iR K F H H0 s o
 ap:∀(i j:Nat) a,iT Γ σ i a ->iT Γ σ j a ->i=j
section
variable{K:W.Frag}{F0 H0 F H F' H' :Hp}{σ:St}{Γ:List Slot}
theorem SR.g(R:SR K F0 H0 F H σ Γ):Same F H:=R.gr.g
theorem ug(r:iR K F H H0 s o)(h:dY s o a):F a=none/\H0 a=none/\∃u,H a=some u/\LD u:=by
 cases s with
 | no=>exact h.elim
 | pu d=>exact h.elim
 | ow ds=>obtain⟨b,vs,rfl,h1,h2,h3,_⟩:=r;cases h;exact⟨h2,h3,_,h1,.inl ⟨_,rfl⟩⟩
 | tr as t=>obtain⟨v,_,_,h2,h3⟩:=r;exact⟨(h2 a h).1,(h2 a h).2,TR.there t v as h3 a h⟩
theorem DR(r:iR K F H H0 s o)(f:Same F F')(k:∀a,dY s o a ->F' a=none/\∀u,H a=some u ->H' a=some u):iR K F' H' H0 s o:=by
 cases s with
 | no=>trivial
 | pu d=>
  obtain⟨v,e,r⟩:=r;exact⟨v,e,r.up f⟩
 | ow ds=>
  obtain⟨a,vs,e,e1,e2,e3,r⟩:=r;obtain⟨k1,k2⟩:=k a e;exact⟨a,vs,e,k2 _ e1,k1,e3,r.up f⟩
 | tr as t=>
  obtain⟨v,e,nd,h,r⟩:=r;exact⟨v,e,nd,fun b hb=>⟨(k b hb).1,(h b hb).2⟩,TR.move f t v as (fun a ha=>(k a ha).2) r⟩
theorem zrs(r:iR K F H H0 s o)(g:Gr F H F' H'):iR K F' H' H0 s o:=
 DR r g.f fun a ha=>by
  obtain⟨h1,_,u,h3,ld⟩:=ug r ha;refine⟨?_,fun u e=>g.h _ _ e⟩;cases q:F' a with
  | none=>rfl
  | some w=>
   rcases g.n a w q h1 with z | ⟨⟨xs,e⟩,z⟩
   ·rw[h3] at z;cases z
   ·rw[h3] at z;cases z;subst e;exact ld.tup.elim
theorem SR.grow(R:SR K F0 H0 F H σ Γ)(g:Gr F H F' H'):SR K F0 H0 F' H' σ Γ:=by
 refine⟨R.gr.trans g,R.len,fun i s e=> ?_,R.ap⟩;obtain⟨o,e1,r⟩:=R.sl i s e;exact⟨o,e1,zrs r g⟩
theorem DW(h:iT (Γ.set i s) (σ.set i o) j a):(j=i/\dY s o a)\/ (j≠i/\iT Γ σ j a):=by
 obtain⟨t,p,e1,e2,h⟩:=h;by_cases hj:i=j
 ·subst hj;have hi:i<Γ.length:=by
   rcases Nat.lt_or_ge i Γ.length with h | h
   ·exact h
   ·rw[List.getElem?_eq_none (by simpa using h)] at e1;cases e1
  have hi' :i<σ.length:=by
   rcases Nat.lt_or_ge i σ.length with h | h
   ·exact h
   ·rw[List.getElem?_eq_none (by simpa using h)] at e2;cases e2
  rw[List.getElem?_set_self hi] at e1;rw[List.getElem?_set_self hi'] at e2;cases e1;cases e2;exact .inl ⟨rfl,h⟩
 ·rw[List.getElem?_set_ne hj] at e1 e2;exact .inr ⟨Ne.symm hj,t,p,e1,e2,h⟩
def Apart(σ:St)(Γ:List Slot)(a:Addr):Prop:=∀j,¬iT Γ σ j a
theorem SR.apart(R:SR K F0 H0 F H σ Γ)(h:H a=none):Apart σ Γ a:=fun j hq1=>by
 obtain⟨s,o,e1,e2,q⟩:=hq1;obtain⟨o',e3,r⟩:=R.sl j s e1;rw[e2] at e3;cases e3;obtain⟨_,_,u,e,_⟩:=ug r q;rw[h] at e;cases e
theorem SR.put(R:SR K F0 H0 F H σ Γ)(i:Nat)(r:iR K F H H0 s o)(ha:∀a,dY s o a ->Apart σ Γ a):SR K F0 H0 F H (σ.set i o) (Γ.set i s):=by
 refine⟨R.gr,by simp [R.len],fun j t e=> ?_,fun j k a e1 e2=> ?_⟩
 ·by_cases hj:i=j
  ·subst hj;have hi:i<Γ.length:=by
    rcases Nat.lt_or_ge i Γ.length with h | h
    ·exact h
    ·rw[List.getElem?_eq_none (by simpa using h)] at e;cases e
   rw[List.getElem?_set_self hi] at e;cases e;exact⟨o,List.getElem?_set_self (by rw[R.len];exact hi),r⟩
  ·rw[List.getElem?_set_ne hj] at e;rw[List.getElem?_set_ne hj];exact R.sl j t e
 ·rcases DW e1 with ⟨rfl,q1⟩ | ⟨n1,q1⟩
  ·rcases DW e2 with ⟨rfl,_⟩ | ⟨_,q2⟩
   ·rfl
   ·exact(ha a q1 _ q2).elim
  ·rcases DW e2 with ⟨rfl,q2⟩ | ⟨_,q2⟩
   ·exact(ha a q2 _ q1).elim
   ·exact R.ap j k a q1 q2
theorem SR.set(R:SR K F0 H0 F H σ Γ)(i:Nat)(r:Rep K F d v):SR K F0 H0 F H (σ.set i (some v)) (Γ.set i (.pu d)):=R.put i ⟨v,rfl,r⟩ fun _ h=>h.elim
theorem SR.drop(R:SR K F0 H0 F H σ Γ)(i:Nat)(o:Option V):SR K F0 H0 F H (σ.set i o) (Γ.set i .no):=R.put i trivial fun _ h=>h.elim
theorem SR.setOw(R:SR K F0 H0 F H σ Γ)(i:Nat)(h1:H a=some (.lst vs))(h2:F a=none)(h3:H0 a=none)(r:ak K F ds vs)(ha:Apart σ Γ a):
  SR K F0 H0 F H (σ.set i (some (.ref a))) (Γ.set i (.ow ds)):=R.put i ⟨a,vs,rfl,h1,h2,h3,r⟩ fun b h=>by cases h;exact ha
theorem Ob(g:Same F H)(h1:H a=some (.lst vs))(h2:F a=none):Same F (L2.upd F a (.lst vs))/\Same (L2.upd F a (.lst vs)) H:=by
 refine⟨fun b u e=> ?_,fun b u e=> ?_⟩
 ·rw[cQ (jV e h2)];exact e
 ·by_cases hb:b=a
  ·subst hb;rw[jL] at e;cases e;exact h1
  ·rw[cQ hb] at e;exact g b u e
theorem SR.frzM(R:SR K F0 H0 F H σ Γ)(s1:Same F F')(s2:Same F' H)(n:∀b u,F' b=some u ->F b=none ->H0 b=none/\Apart σ Γ b):SR K F0 H0 F' H σ Γ:=by
 refine⟨⟨R.gr.f.trans s1,s2,R.gr.h,fun b o e q=> ?_⟩,R.len,fun j s e=> ?_,R.ap⟩
 ·cases z:F b with
  | none=>exact .inl (n b o e z).1
  | some u=>have:=s1 _ _ z;rw[e] at this;cases this;exact R.gr.n b _ z q
 ·obtain⟨o,e1,r⟩:=R.sl j s e;refine⟨o,e1,DR r s1 fun b hb=>⟨?_,fun _ q=>q⟩⟩;obtain⟨h1,_,_⟩:=ug r hb;cases q:F' b with
  | none=>rfl
  | some u=>exact((n b u q h1).2 j ⟨s,o,e,e1,hb⟩).elim
def aaE(F H:Hp):Hp:=fun b=>match F b with | some u=>some u | none=>match H b with | some (.tup xs)=>some (.tup xs) | _=>none
theorem SR.frzA(R:SR K F0 H0 F H σ Γ)(h1:H a=some (.lst vs))(h2:F a=none)(h3:H0 a=none)(ha:Apart σ Γ a):SR K F0 H0 (L2.upd F a (.lst vs)) H σ Γ:=by
 obtain⟨s1,s2⟩:=Ob R.g h1 h2;refine R.frzM s1 s2 fun b u e n=> ?_;by_cases hb:b=a
 ·subst hb;exact⟨h3,ha⟩
 ·rw[cQ hb,n] at e;cases e
theorem Al(e1:σ[i]?=some o):σ.set i o=σ:=by
 obtain⟨hl,e2⟩:=zW.mp e1;rw[<- e2];simp
theorem SR.less(R:SR K F0 H0 F H σ Γ)(e:Γ[i]?=some s)(e1:σ[i]?=some o)(h:dY s o a):Apart σ (Γ.set i .no) a:=fun j q=>by
 have q' :iT (Γ.set i .no) (σ.set i o) j a:=by rw[Al e1];exact q
 rcases DW q' with ⟨_,z⟩ | ⟨n,z⟩
 ·exact z
 ·exact n (R.ap j i a z ⟨s,o,e,e1,h⟩)
theorem SR.dropAt(R:SR K F0 H0 F H σ Γ)(e1:σ[i]?=some o):SR K F0 H0 F H σ (Γ.set i .no):=by
 have q:=R.drop i o;rw[Al e1] at q;exact q
theorem SR.frz(R:SR K F0 H0 F H σ Γ)(e:Γ[i]?=some (.ow ds)):∃a F',σ[i]?=some (some (.ref a))/\Same F F' /\SR K F0 H0 F' H σ (Γ.set i (.pu (.lst ds)))/\Rep K F' (.lst ds) (.ref a):=by
 obtain⟨o,e1,a,vs,rfl,h1,h2,h3,r⟩:=R.sl i _ e;obtain⟨s1,_⟩:=Ob R.g h1 h2;have rp:Rep K (L2.upd F a (.lst vs)) (.lst ds) (.ref a):=by
  unfold Rep;exact⟨a,vs,rfl,.inl (.inl jL),r.up s1⟩
 have R2:=((R.dropAt e1).frzA h1 h2 h3 (R.less e e1 (show dY (Slot.ow ds) (some (.ref a)) a from rfl))).set i rp;rw[Al e1,List.set_set] at R2;exact⟨a,_,e1,s1,R2,rp⟩
theorem SR.wrO(R:SR K F0 H0 F H σ Γ)(e:Γ[i]?=some s)(e1:σ[i]?=some o)(h:dY s o a)(r:iR K F (L2.upd H a u) H0 t o)(ht:∀b,dY t o b ->dY s o b):
  SR K F0 H0 F (L2.upd H a u) σ (Γ.set i t):=by
 obtain⟨o',e2,r0⟩:=R.sl i _ e;rw[e1] at e2;cases e2;obtain⟨h2,h3,w,h1,_⟩:=ug r0 h;have hi:i<Γ.length:=(zW.mp e).1;have R1:SR K F0 H0 F (L2.upd H a u) σ (Γ.set i .no):=by
  have R0:=R.dropAt e1;refine⟨⟨R0.gr.f,fun b u q=> ?_,fun b u q=> ?_,fun b o q n=>R0.gr.n b o q n⟩,R0.len,fun j s' q=> ?_,R0.ap⟩
  ·rw[cQ (jV q h2)];exact R0.g b u q
  ·rw[cQ (jV q h3)];exact R0.gr.h b u q
  ·obtain⟨o,p1,p2⟩:=R0.sl j s' q;refine⟨o,p1,DR p2 (.refl _) fun b hb=>⟨(ug p2 hb).1,fun u q' => ?_⟩⟩;have:b≠a:=fun z=>by subst z;exact R.less e e1 h j ⟨s',o,q,p1,hb⟩
   rw[cQ this];exact q'
 have R2:=R1.put i r fun b hb=>R.less e e1 (ht b hb);rw[Al e1,List.set_set] at R2;exact R2
theorem SR.wr(R:SR K F0 H0 F H σ Γ)(e:Γ[i]?=some (.ow ds))(e1:σ[i]?=some (some (.ref a)))(r:ak K F es us):
  SR K F0 H0 F (L2.upd H a (.lst us)) σ (Γ.set i (.ow es)):=by
 obtain⟨o,e2,r0⟩:=R.sl i _ e;rw[e1] at e2;cases e2;obtain⟨h2,h3,_⟩:=ug r0 (show dY (Slot.ow ds) (some (.ref a)) a from rfl);exact R.wrO e e1 (show dY (Slot.ow ds) (some (.ref a)) a from rfl) ⟨a,us,rfl,jL,h2,h3,r⟩ fun b hb=>hb
end
def WM(h B:Heap)(e:Addr)(cls:Value)(dd:Option Addr)(fl:Value):Prop:=
 ∃oe vs T oT ts,h.get? e=some oe/\ (oe.cls=cls/\oe.dict=dd/\vs[2]?=some Value.none)/\oe.data= .fields vs/\vs[1]?=some (.ref T)/\B.get? T=none/\T≠e/\h.get? T=some oT/\oT.data= .fields ts/\ts[3]?=some fl
def DX(B:Heap)(l:List Env)(a:Addr)(cls:Value)(h:Heap):Prop:=
 B.StaysIn h/\B.get? a=none/\h.FunFrames B l/\
  ((∃dd,WM h B a cls dd .none)\/∃oe vs,h.get? a=some oe/\oe.cls=cls/\oe.data= .fields vs/\vs[1]?=some Value.none/\vs[2]?=some Value.none)
def pY(B:Heap)(l:List Env)(e:Addr)(cls:Value)(dd:Option Addr)(fl:Value)(h:Heap):Prop:=B.StaysIn h/\B.get? e=none/\h.FunFrames B l/\WM h B e cls dd fl
section
variable{M:Model}{A:Around}{E:bH}{s:Shared}{B:Heap}{env:Env}{outer:List Env}{L a:Addr}{cls fl:Value}{dd:Option Addr}{Q:Unit ->Shared ->Prop}
theorem zus(f:Array Value ->Array Value)(o:Obj):(Obj.mapFields f o).dict=o.dict:=by
 unfold Obj.mapFields;split<;>rfl
theorem Am{h:Heap}{T b:Addr}{oT o:Obj}{ts:Array Value}(hT:h.get? T=some oT)(hd:oT.data= .fields ts)(hb:h.get? b=some o)(hn:∀vs,o.data≠ .fields vs):b≠T:=fun q=>by
 rw[q,hT] at hb;injection hb with hb;subst hb;exact hn ts hd
theorem DY{l:List Env}(x:pY B l a cls dd fl s.heap)(hQ:∀h',pY B l a cls dd .none h' ->s.heap.UpToSlots h' ->Q () {s with heap:=h'}):wpAny M A (setFlight (.ref a) none) Q E s:=by
 obtain⟨f1,f2,f3,oe,vs,T,oT,ts,he,hk,hd,h1,hB,hne,hT,hdT,h3⟩:=x;have far:∀b,b≠T ->(s.heap.update T (Obj.mapFields (·.setIfInBounds 3 ((none:Option Addr).elim Value.none fun f=>rawInt f)))).get? b=s.heap.get? b:=fun b hb=>Heap.get?_update_other _ _ (Ne.symm hb);have hz:3<ts.size:=(Array.getElem?_eq_some_iff.mp h3).1;unfold setFlight;refine z6 (wpAny_field he hd h1 ?_);rw[if_pos (by simp)]
 refine wpAny_setField hT hdT hz (hQ _ ⟨fun b o q=> ?_,f2,f3.of_keeps fun b o q n=>⟨o,?_,rfl⟩,oe,vs,T,_,_,(far a (Ne.symm hne)).trans he,hk,hd,h1,hB,hne,Heap.get?_update_self _ hT (Obj.isFreed_of_fields (Obj.data_mapFields hdT _)),Obj.data_mapFields hdT _,by simp [hz]⟩ fun b o q n=>⟨o.slots,?_⟩)
 ·exact(far b fun z=>by rw[z,hB] at q;cases q).trans (f1 b o q)
 ·exact(far b (Am hT hdT q n)).trans q
 ·exact(far b (Am hT hdT q n)).trans q
theorem rN{oe:Obj}{vs:Array Value}{head:Value}{more:Bool}(hfr:A.frames=some (env::outer))(hl:s.heap.FunFrames B (env::outer))(hf:env.frame=some L)(he:s.heap.get? a=some oe)(hkb:B.StaysIn s.heap)(hen:B.get? a=none)
  (hd:oe.data= .fields vs) (hz:1<vs.size) (h2:vs[2]?=some Value.none) (hQ:∀h',pY B (env::outer) a oe.cls oe.dict (rawInt L) h' ->s.heap.UpToSlots h' ->Q () {s with heap:=h'}):
  wpAny M A (do let x<- frameOf env;let pl<- entryPlaceOf L more;let b<- EntryCells.newEntry head x .none (rawInt L) .none pl;setField (.ref a) 1 b) Q E s:=by
 have nf:a∉ (env::outer).filterMap (·.frame):=fun hm=>by
  obtain⟨_,o,ho,hn⟩:=hl.mem hm;rw[he] at ho;injection ho with ho;subst ho;exact hn vs hd
 refine z6 (wpAny_frameOf_fun hfr hl hf fun h1 k1=> ?_);refine z6 (wpAny_entryPlaceOf fun pl hp=> ?_);unfold EntryCells.newEntry newFields;refine z6 (wpAny_newObj_type ?_ (hp.sizeOk5 _ _ _ _ _));have e1:h1.get? a=some oe:=(k1.2.1 a nf).trans he;have b1:B.StaysIn h1:=fun b o q=>(k1.2.1 b fun hm=>by rw[(hl.mem hm).1] at q;cases q).trans (hkb b o q)
 refine wpAny_setField (z8 _ e1) hd hz (hQ _ ?_ ?_)
 all_goals
  have ne:h1.objs.size≠a:=Nat.ne_of_gt (zJ e1);have d3:=Obj.data_mapFields hd (·.setIfInBounds 1 (Value.ref h1.objs.size));have far:∀b o,b≠a ->h1.get? b=some o ->((h1.push {cls:= .type "traceback",dict:=none,data:= .fields ([head,.ref L,.none,rawInt L,.none]++ (if pl.isEmpty then List.replicate 6 Value.none else pl)).toArray}).update a (Obj.mapFields (·.setIfInBounds 1 (Value.ref h1.objs.size)))).get? b=some o:=
   fun b o hb q=>by rw[Heap.get?_update_other _ _ (Ne.symm hb)];exact z8 _ q
 ·refine⟨fun b o q=>far b o (fun z=>by rw[z,hen] at q;cases q) (b1 b o q),hen,hl.of_keeps fun b o q n=> ?_,?_⟩
  ·obtain⟨sl,k⟩:=k1.2.2 b o q;exact⟨_,far b _ (Am he hd q n) k,rfl⟩
  ·exact⟨_,_,h1.objs.size,_,_,Heap.get?_update_self _ (z8 _ e1) (Obj.isFreed_of_fields d3),⟨Obj.cls_mapFields _ _,zus _ _,by rw[Array.getElem?_setIfInBounds_ne (by decide)];exact h2⟩,d3,by simp [hz],b1.fresh,ne,
    (Heap.get?_update_other _ _ (Ne.symm ne)).trans (z9 h1 rfl),rfl,by first | (simp;done) | (rcases hp with rfl | ⟨_,_,_,_,_,_,_,rfl⟩<;>simp)⟩
 ·intro b o q n;obtain⟨sl,k⟩:=k1.2.2 b o q;exact⟨sl,far b _ (Am he hd q n) k⟩
theorem zyk(hfr:A.frames=some (env::outer))(hf:env.frame=some L)(x:DX B (env::outer) a cls s.heap)
  (hQ:∀h' dd,pY B (env::outer) a cls dd (rawInt L) h' ->s.heap.UpToSlots h' ->Q () {s with heap:=h'}):wpAny M A (noteFrame (.ref a) env) Q E s:=by
 obtain⟨f1,f2,f3,⟨dd,oe,vs,T,oT,ts,he,⟨rfl,rfl,h2⟩,hd,h1,hB,hne,hT,hdT,h3⟩ | ⟨oe,vs,he,rfl,hd,h1,h2⟩⟩:=x
 ·unfold noteFrame;simp only [hf];refine z6 (wpAny_field he hd h1 ?_);rw[if_pos (by simp)]
  refine z6 (wpAny_field hT hdT h3 ?_);rw[if_neg (by simp [rawInt])]
  refine z6 (wpAny_setField hT hdT (Array.getElem?_eq_some_iff.mp h3).1 ?_);have far:∀b,b≠T ->(s.heap.update T (Obj.mapFields (·.setIfInBounds 3 Value.none))).get? b=s.heap.get? b:=fun b hb=>Heap.get?_update_other _ _ (Ne.symm hb);refine rN (s:={s with heap:=s.heap.update T (Obj.mapFields (·.setIfInBounds 3 Value.none))}) hfr (f3.of_keeps fun b o q n=>⟨o,(far b (Am hT hdT q n)).trans q,rfl⟩) hf ((far a (Ne.symm hne)).trans he) (fun b o q=>(far b fun z=>by rw[z,hB] at q;cases q).trans (f1 b o q)) f2 hd (Array.getElem?_eq_some_iff.mp h1).1 h2 fun h' w up=> ?_
  exact hQ h' _ w fun b o q n=>up b o ((far b (Am hT hdT q n)).trans q) n
 ·unfold noteFrame;simp only [hf];refine z6 (wpAny_field he hd h1 ?_);rw[if_neg (by decide)]
  exact rN hfr f3 hf he f1 f2 hd (Array.getElem?_eq_some_iff.mp h1).1 h2 fun h' w up=>hQ h' _ w up
theorem zve(hfr:A.frames=some (env::outer))(hf:env.frame=some L)(x:DX B (env::outer) a cls s.heap)
  (hQ:∀h',DX B outer a cls h' ->s.heap.UpToSlots h' ->Q () {s with heap:=h'}):wpAny M A (leaving env (.ref a)) Q E s:=by
 unfold leaving;refine z6 (zyk hfr hf x fun h1 dd w up=>DY (s:={s with heap:=h1}) w fun h2 w2 up2=> ?_);obtain⟨k1,k2,⟨_,_,k3⟩,k4⟩:=w2;exact hQ h2 ⟨k1,k2,k3,.inl ⟨dd,k4⟩⟩ (up.trans up2)
end
def gK(P:Program)(w:World):qy:=fun outer H s E e s' =>
 ∃a C H' B,e= .ref a/\s'.os=s.os/\AllBare s'.gens/\Un (frs outer) [] H H' s.heap s'.heap/\gP P w H' s'.heap/\DX B outer a C s'.heap/\
  (∀b o,s.heap.get? b=some o ->b∉frs outer ->∃o',B.get? b=some o')/\ (∀b u,H' b=some u ->∃o',B.get? b=some o')/\E C none H'
theorem gK.imp(h:gK P w outer H s E e s')(k:∀C dx H',E C dx H' ->E' C dx H'):gK P w outer H s E' e s' :=by
 obtain⟨a,C,H',B,h1,h2,h3,h4,h5,h6,h7,h8,h9⟩:=h;exact⟨a,C,H',B,h1,h2,h3,h4,h5,h6,h7,h8,k _ _ _ h9⟩
section
variable{X:Cx}{pins:bA}{σ:St}{H H' :Hp}{s s' :Shared}{B:Heap}{h' :Heap}
theorem z00(hok:gP X.prog X.w H' s'.heap)(b1:B.StaysIn s'.heap)(b2:B.StaysIn h')(ud:∀b u,H' b=some u ->∃o',B.get? b=some o'):gP X.prog X.w H' h' :=fun b u e=>
 (hok b u e).stay (fun c v hc q=>by
  have:∃o',B.get? c=some o' :=by
   rcases hc with rfl | hc
   ·exact ud _ _ e
   ·exact ud _ _ hc
  obtain⟨o',e'⟩:=this;have z:=b1 c o' e';rw[q] at z;cases z;exact b2 c _ e') (fun _ q=>q) fun _ _ q=>q
theorem z2x(I:Inv X pins σ H s)(hex:X.ex= [])(os:s'.os=s.os)(bare:AllBare s'.gens)(un:Un (frs X.stack) [] H H' s.heap s'.heap)(hok:gP X.prog X.w H' s'.heap)(b1:B.StaysIn s'.heap)(b2:B.StaysIn h')
  (inB:∀b o,s.heap.get? b=some o ->b∉frs X.stack ->∃o',B.get? b=some o') (up:s'.heap.UpToSlots h'):
  Un X.fs [] X.H₀ H' X.s₀.heap h' /\∀b o,X.s₀.heap.get? b=some o ->b∉X.fs ->∃o',B.get? b=some o' :=by
 have I' :Inv X pins σ H' s' :=I.call' os un hok bare (fun b z=>absurd z (by simp))
 have hb:=I'.base;rw[hex] at hb;have hb0:=I.base;rw[hex] at hb0;have Ea:∀b o,X.s₀.heap.get? b=some o ->b∉X.fs ->∃o',B.get? b=some o' :=fun b o e n=>by
  obtain⟨o1,e1⟩:=hb0.there b o e (by simp)
  refine inB b o1 e1 fun z=> ?_;rcases zV.mp (I.stkSub b z) with z | z
  ·exact absurd (zN (zJ e) I.ok.above) (by rw[z];exact yX _)
  ·exact n z
 refine⟨⟨fun b o e n hf hx=> ?_,fun b o e n hf hx=> ?_,fun b o e n hx=>hb.free b o e n hx,fun b o e hx=> ?_,hb.tups,hb.lO,hb.mQ⟩,Ea⟩
 ·have e1:=hb.keep b o e n hf (by simp)
  obtain⟨o',e'⟩:=Ea b o e hf;have z:=b1 b o' e';rw[e1] at z;cases z;exact b2 b _ e'
 ·obtain⟨sl,e1⟩:=hb.slot b o e n hf (by simp)
  obtain⟨_,o2,e2,nf⟩:=I.ok.funs.mem hf;rw[e] at e2;cases e2;obtain⟨sl',e3⟩:=up b _ e1 nf;exact⟨sl',e3⟩
 ·by_cases hf:b∈X.fs
  ·obtain⟨sl,e1⟩:=hb.slot b o e (I.ok.CG b hf) hf (by simp)
   obtain⟨_,o2,e2,nf⟩:=I.ok.funs.mem hf;rw[e] at e2;cases e2;obtain⟨sl',e3⟩:=up b _ e1 nf;exact⟨_,e3⟩
  ·obtain⟨o',e'⟩:=Ea b o e hf;exact⟨o',b2 b o' e'⟩
theorem WQ(I:Inv X pins σ H s)(hex:X.ex= [])(hst:X.stack=X.env::X.outer)(hfr:X.env.frame=some X.env.locals)
  (h:gK X.prog X.w X.stack H s E e s'):wpAny (model X.prog X.w) X.A (leaving X.env e) (fun _ s'' =>gK X.prog X.w X.outer X.H₀ X.s₀ E e s'') Eb s' :=by
 obtain⟨a,C,H',B,rfl,os,bare,un,hok,Oc,inB,ud,hE⟩:=h;refine zve (by rw[I.ok.frames,hst]) hfr (by rw[<- hst];exact Oc) fun h' xW up=> ?_
 obtain⟨un',Ea⟩:=z2x I hex os bare un hok Oc.1 xW.1 inB up;exact⟨a,C,H',B,rfl,os.trans I.os,bare,un',z00 hok Oc.1 xW.1 ud,xW,Ea,ud,hE⟩
end
def nQ(K:W.Frag)(C:Addr):Prop:=W.excIn K C [.type "ValueError",.type "Exception",.type "BaseException",.type "object"] "ValueError.__new__" =true
theorem zwx{K:W.Frag}{h:Heap}{C:Addr}(X:K.In h)(q:nQ K C):
  ∃bm N nm qn bs hdct sn sub ab col dd k0 k1 k2 k3 k5 mN,h.get? C=some (excClassObj nm qn C N bs bm hdct sn sub ab col dd k0 k1 k2 k3 k5 "ValueError.__new__")/\h.Ns N mN/\mN "__init__" =none/\
   OwnTail h [.type "ValueError",.type "Exception",.type "BaseException",.type "object"] bm:=by
 unfold nQ W.excIn at q;split at q
 ·rename_i dd cd sl ho;split at q
  ·rename_i C' bm k0 k1 k2 k3 n k5 hm hs;simp only [Bool.and_eq_true,beq_iff_eq,Bool.not_eq_true'] at q;obtain⟨⟨⟨⟨⟨rfl,rfl⟩,hdel⟩,ht⟩,hok⟩,hni⟩:=q;obtain⟨nm,bs,mro,ns,qn,hd,sn,sub,ab,col,del⟩:=cd;dsimp only at hm hdel hok hni;subst hm hdel;obtain rfl:sl= #[k0,k1,k2,k3,some (.builtin "ValueError.__new__"),k5]:=by
    cases sl;simp only at hs;rw[hs]
   exact⟨bm,ns,nm,qn,bs,hd,sn,sub,ab,col,dd,k0,k1,k2,k3,k5,_,X _ _ ho,.of_isNs (W.isNs_of_in X hok),W.nsMap_none_of_in X hok hni,W.tail_of_in X ht⟩
  ·cases q
 ·cases q
abbrev Od:List Value:= [.type "ValueError",.type "Exception",.type "BaseException",.type "object"]
def Ec(K:W.Frag)(C:Addr):Bool:=match K.lookup C with
 | some ⟨.type "type",_,.cls cd,sl⟩=>(match cd.mro,sl.toList with
  | .ref C' ::bm,[_,_,_,_,some (.builtin n),_]=>C' ==C&&n== "ValueError.__new__" && !cd.hasDel&&W.tailIn K Od bm
  | _,_=>false)
 | _=>false
def rO(K:W.Frag)(C:Addr):Prop:=Ec K C=true
section
variable{X:Cx}{pins:bA}{σ:St}{H:Hp}{s:Shared}
theorem z02(hl:h.FunFrames base l)(hm:Heap.MadeExcOf h h1 a (.ref C) vs):DX (W.hideAll h (frs l)) l a (.ref C) h1:=by
 obtain⟨t,he,_,_⟩:=hm.there;refine⟨fun b o q=>hm.keeps b o (W.of_hideAll _ q),?_,?_,.inr ⟨_,_,he,rfl,rfl,rfl,rfl⟩⟩
 ·cases q:(W.hideAll h (frs l)).get? a with
  | none=>rfl
  | some o=>
   have z:=W.of_hideAll _ q;rw[hm.new] at z;cases z
 ·have k:=W.funFrames_hide (as:=frs l) hl fun env he a ha=>List.mem_filterMap.mpr ⟨env,he,ha⟩;exact k.of_keeps fun b o e _=>⟨o,hm.keeps b o e,rfl⟩
theorem zxv{x:Str}{C:Addr}{np cpos pos:Pos}{e:Expr}{es:List Expr}{t:TA}{Q:Flow ->Shared ->Prop}{E:XK}(hg:Gl X x)(hm:X.mg x=some (.ref C))(hC:nQ X.K C)(ha:PA X (e::es) t)(hh:X.calm=true)
  (I:Inv X pins σ H s) (h:t σ H fun vs H1=>vs.length<=sizeLine/\E (.ref C) none H1)
  (px:∀H1 s1 e s',Inv X pins σ H1 s1 ->gK X.prog X.w X.stack H1 s1 (fun C' dx H' =>C' = .ref C/\dx=none/\H' =H1/\E (.ref C) none H1) e s' ->X.xe e s')
  (hd:(x==("__debug__" :Str))=false:=by decide) (he:starEach (e::es) X.env=(false,eval e X.env)::starEach es X.env:=by rfl) (hpl:(backTo cpos (starEach es X.env)).any (·.1)=false:=by rfl):
  wpAny (model X.prog X.w) X.A (exec (.Raise (some (.Call (.Name x np) (e::es) [] cpos)) none pos) X.env) Q X.xe s:=by
 obtain⟨bm,N,nm,qn,bs,hdct,sn,sub,ab,col,dd,k0,k1,k2,k3,k5,mN,e1,e2,e3,e4⟩:=zwx I.mod.Cz hC;refine wpAny_Raise_call_subT (C:=C) (nm:=nm) (q:=qn) (N:=N) (bs:=bs) (bm:=bm) (hdct:=hdct) (sn:=sn) (sub:=sub) (ab:=ab) (col:=col) (dd:=dd) (k0:=k0) (k1:=k1) (k2:=k2) (k3:=k3) (k5:=k5)
  PySem.F.excBase_ValueError (mN:=mN) (e4.hasType PySem.F.excBase_ValueError.hasBase) (I.ok.hd hh) ?_ e3 (Lq I hg hm ⟨rfl,?_⟩ hd)
 ·rw[he];show(false || (backTo cpos (starEach es X.env)).any (·.1))=false
  rw[hpl];rfl
 ·have key:=ha cpos pins s σ H _ I h;rw[he] at key⊢;refine Calls.evalArgs_plain (wpAny_mono key (fun us s2 ⟨vs,H1,I1,r,z,q⟩=>⟨rfl,by rw[<- r.length];exact z,I1.bk _ _ e1,e2.keeps I1.bk,e4.keeps I1.bk,fun h' a hm=> ?_⟩) fun _ _ y=>y)
  refine px H1 s2 _ _ I1 ⟨a,.ref C,H1,W.hideAll s2.heap (frs X.stack),rfl,rfl,I1.bare,Un.kept hm.keeps,I1.hok.kept hm.keeps,z02 I1.stack hm,fun b o e n=>⟨o,W.hideAll_get _ e n⟩,fun b u e=> ?_,rfl,rfl,rfl,q⟩;obtain⟨o,eo⟩:∃o,s2.heap.get? b=some o:=by
   have k:=I1.hok b u e;cases u with
   | lst xs=>obtain⟨_,_,_,_,e⟩:=k;exact⟨_,e⟩
   | tup xs=>obtain⟨_,_,_,o,e,_⟩:=k;exact⟨_,e⟩
   | dK kvs=>obtain⟨_,_,_,_,o,_,_,e,_⟩:=k;exact⟨_,e⟩
   | dT kvs=>obtain⟨_,_,_,_,o,_,_,e,_⟩:=k;exact⟨_,e⟩
   | set S n=>obtain⟨o,_,_,_,e,_⟩:=k;exact⟨_,e⟩
   | ins C dx fs=>obtain⟨_,_,_,e,_⟩:=k;exact⟨_,e⟩
   | own y=>exact k
   | xd fs=>obtain⟨_,⟨_,_,_,e,_⟩,_⟩:=k;exact⟨_,e⟩
   | rng lo hi=>obtain⟨_,_,_,e⟩:=k;exact⟨_,e⟩
   | frz ob u=>obtain⟨e,_⟩:=k;exact⟨_,e⟩
   | vO ps=>exact⟨_,(show s2.heap.get? b=some _ from k)⟩
   | met f y=>exact⟨_,(show s2.heap.get? b=some _ from k)⟩
   | ext φ=>obtain⟨_,e,_⟩:=k;exact e
  refine⟨o,W.hideAll_get _ eo fun z=> ?_⟩;have:=I1.stkFree b z;rw[e] at this;cases this
end
abbrev G2:=List Slot
abbrev XW:=G2 ->Value ->Prop
abbrev aG:=G2 ->(D ->G2 ->Prop) ->XW ->Prop
abbrev aZ:=G2 ->(List D ->G2 ->Prop) ->XW ->Prop
abbrev TT2:=G2 ->(Bool ->G2 ->Prop) ->XW ->Prop
structure jm where
 nx:G2 ->Prop
 rt:D ->Prop
 bk:G2 ->Prop:=fun _=>False
 ct:G2 ->Prop:=fun _=>False
 rf:D ->Prop:=fun _=>False
 rT:T ->Prop:=fun _=>False
 rm:D ->G2 ->Prop:=fun _ _=>False
abbrev au:=jm ->G2 ->XW ->Prop
open Classical in
noncomputable def pZ (F0 F:Hp):Hp:=fun b=>if∃w,LD w/\F0 b=some w then none else F b
section
variable(K:W.Frag)(F0 H0:Hp)
def xX(t:aG)(E:XW):TE:=fun σ H Q=>∃F Γ P,SR K F0 H0 F H σ Γ/\t Γ P E/\∀d Γ' F' H' v,SR K F0 H0 F' H' σ Γ' ->Same F F' ->Rep K F' d v ->P d Γ' ->Q v H'
def Ed(t:TT2)(E:XW):TT:=fun σ H Q=>∃F Γ P,SR K F0 H0 F H σ Γ/\t Γ P E/\∀b Γ' F' H',SR K F0 H0 F' H' σ Γ' ->Same F F' ->P b Γ' ->Q b H'
def Ef(t:aZ)(E:XW):TA:=fun σ H Q=>∃F Γ P,SR K F0 H0 F H σ Γ/\t Γ P E/\∀ds Γ' F' H' vs,SR K F0 H0 F' H' σ Γ' ->Same F F' ->ak K F' ds vs ->P ds Γ' ->Q vs H'
def WR(t:aZ)(E:XW):TE:=fun σ H Q=>∃F Γ P,SR K F0 H0 F H σ Γ/\t Γ P E/\∀ds Γ' F' H' a vs,SR K F0 H0 F' H' σ Γ' ->Same F F' ->H' a=some (.lst vs) ->F' a=none ->H0 a=none ->ak K F' ds vs ->Apart σ Γ' a ->P ds Γ' ->Q (.ref a) H'
structure qG (F:Hp) (D2:jm) (D:Ends):Prop where
 nx:∀Γ F' H σ,SR K F0 H0 F' H σ Γ ->Same F F' ->D2.nx Γ ->D.nx σ H
 bk:∀Γ F' H σ,SR K F0 H0 F' H σ Γ ->Same F F' ->D2.bk Γ ->D.bk σ H
 ct:∀Γ F' H σ,SR K F0 H0 F' H σ Γ ->Same F F' ->D2.ct Γ ->D.ct σ H
 rt:∀d v F' H,Gr F0 H0 F' H ->Rep K F' d v ->D2.rt d ->D.rt v H
 rf:∀d v F' H,Gr F0 H0 F' H ->Rep K (pZ F0 F') d v ->D2.rf d ->D.rt v H
 rT:∀t v as F' H,Gr F0 H0 F' H ->as.Nodup ->(∀a∈as,F' a=none/\H0 a=none) ->TR K F' H t v as ->D2.rT t ->D.rt v H
 rm:∀d v Γ F' H σ,SR K F0 H0 F' H σ Γ ->Rep K F' d v ->D2.rm d Γ ->D.rt v H
def Jo(t:au)(E:XW):TS:=fun D σ H=>∃F Γ D2,SR K F0 H0 F H σ Γ/\t D2 Γ E/\qG K F0 H0 F D2 D
end
theorem qG.mono{K:W.Frag}{F0 H0 F F' :Hp}{D2:jm}{D:Ends}(k:qG K F0 H0 F D2 D)(s:Same F F'):qG K F0 H0 F' D2 D:=
 ⟨fun Γ F1 H σ R s1 h=>k.nx Γ F1 H σ R (s.trans s1) h,fun Γ F1 H σ R s1 h=>k.bk Γ F1 H σ R (s.trans s1) h,fun Γ F1 H σ R s1 h=>k.ct Γ F1 H σ R (s.trans s1) h,k.rt,k.rf,k.rT,k.rm⟩
structure WT where
 xe:bH
 pn:bA
abbrev _root_.L2.Cx.wsh(X:Cx)(z:WT):Cx:={X with xe:=z.xe,pn:=z.pn}
structure Ctx (X:Cx) (F0 H0:Hp) (E:XW):Prop where
 pX:∀pins σ Γ F H s e s',Inv X pins σ H s ->SR X.K F0 H0 F H σ Γ ->gK X.prog X.w X.stack H s (fun C dx H' =>∃Γ' F',SR X.K F0 H0 F' H' σ Γ' /\Same F F' /\E Γ' C/\dx=none) e s' ->X.xe e s'
 po:PassesOwn (model X.prog X.w) X.A X.env X.xe
theorem Ctx.px(cx:Ctx X F0 H0 E)(pins:bA)(σ:St)(Γ:G2)(F H:Hp)(s:Shared)(e:Value)(s' :Shared)(I:Inv X pins σ H s)(R:SR X.K F0 H0 F H σ Γ)(hx:gK X.prog X.w X.stack H s (fun C dx H' =>E Γ C/\dx=none/\Same H H') e s'):X.xe e s' :=
 cx.pX pins σ Γ F H s e s' I R (hx.imp fun _ _ H' ⟨h1,h2,h3⟩=>⟨Γ,F,R.grow ⟨.refl _,R.g.trans h3,h3,fun b o e n=>by rw[e] at n;cases n⟩,.refl _,h1,h2⟩)
def QE(X:Cx)(F0 H0:Hp)(e:Expr)(t:aG):Prop:=∀z E,Ctx (X.wsh z) F0 H0 E ->PE (X.wsh z) e (xX X.K F0 H0 t E)
def QF(X:Cx)(F0 H0:Hp)(e:Expr)(t:aZ):Prop:=∀z E,Ctx (X.wsh z) F0 H0 E ->PE (X.wsh z) e (WR X.K F0 H0 t E)
def QT(X:Cx)(F0 H0:Hp)(e:Expr)(t:TT2):Prop:=∀z E,Ctx (X.wsh z) F0 H0 E ->PT (X.wsh z) e (Ed X.K F0 H0 t E)
def QW(X:Cx)(F0 H0:Hp)(e:Expr)(t:TT2):Prop:=∀z E,Ctx (X.wsh z) F0 H0 E ->PW (X.wsh z) e (Ed X.K F0 H0 t E)
def QA(X:Cx)(F0 H0:Hp)(es:List Expr)(t:aZ):Prop:=∀z E,Ctx (X.wsh z) F0 H0 E ->PA (X.wsh z) es (Ef X.K F0 H0 t E)
def QS(X:Cx)(F0 H0:Hp)(st:Stmt)(t:au):Prop:=∀z E,Ctx (X.wsh z) F0 H0 E ->PS (X.wsh z) st (Jo X.K F0 H0 t E)
def pA(X:Cx)(F0 H0:Hp)(st:List Stmt)(t:au):Prop:=∀z E,Ctx (X.wsh z) F0 H0 E ->rB (X.wsh z) st (Jo X.K F0 H0 t E)
section
variable{X:Cx}{e:Expr}{es:List Expr}{st:Stmt}{sts:List Stmt}
theorem jg(h:PE X e t)(hi:∀σ H Q,t' σ H Q ->t σ H Q):PE X e t' :=fun pins s σ H Q I q=>h pins s σ H Q I (hi _ _ _ q)
theorem Ao(h:PT X e t)(hi:∀σ H Q,t' σ H Q ->t σ H Q):PT X e t' :=fun pins s σ H Q I q=>h pins s σ H Q I (hi _ _ _ q)
theorem WW(h:PA X es t)(hi:∀σ H Q,t' σ H Q ->t σ H Q):PA X es t' :=fun p pins s σ H Q I q=>h p pins s σ H Q I (hi _ _ _ q)
theorem lY(h:PS X st t)(hi:∀D σ H,t' D σ H ->t D σ H):PS X st t' :=fun pins s σ H D I q=>h pins s σ H D I (hi _ _ _ q)
theorem Eh(h:rB X sts t)(hi:∀D σ H,t' D σ H ->t D σ H):rB X sts t' :=fun pins s σ H D I q=>h pins s σ H D I (hi _ _ _ q)
end
section
variable{X:Cx}{F0 H0:Hp}{a b c e:Expr}{es:List Expr}{pos:Pos}{ta tb tc te:aG}
def cC(d:D):aG:=fun Γ P _=>P d Γ
theorem Oe(h:∀z,PE (X.wsh z) e (tC v))(r:∀F,Rep X.K F d v):QE X F0 H0 e (cC d):=fun z E cx=>
 jg (h z) fun σ H Q hq1=>by obtain⟨F,Γ,P,R,h,k⟩:=hq1;exact k _ _ _ _ _ R (.refl _) (r F) h
theorem aM{i j pos}:QE X F0 H0 (.Constant (.int i) j pos) (cC (.int i)):=Oe (fun _=>z4d) fun _=>by unfold Rep;rfl
theorem z56{i j pos}:QE X F0 H0 (.Constant (.bool i) j pos) (cC (.bl i)):=Oe (fun _=>z5g) fun _=>by unfold Rep;rfl
theorem uY{x j pos}:QE X F0 H0 (.Constant (.str x) j pos) (cC (.str x)):=Oe (fun _=>z3c) fun _=>by unfold Rep;rfl
def cV(i:Nat):aG:=fun Γ P _=>match Γ[i]? with
 | some (.pu d)=>P d Γ
 | some (.ow ds)=>P (.lst ds) (Γ.set i (.pu (.lst ds)))
 | _=>False
theorem z4a(hN:X.N[i]?=some x)(hv:mU X.env.scope x)(hd:(x==("__debug__" :Str))=false:=by decide)(hcd:(x==("__classdict__" :Str))=false:=by decide):QE X F0 H0 (.Name x pos) (cV i):=fun z E cx=>
 jg (o7 (X:=X.wsh z) (i:=i) hN hv hd hcd) fun σ H Q hq2=>by
  obtain⟨F,Γ,P,R,h,k⟩:=hq2;unfold cV at h;split at h
  ·rename_i d e;obtain⟨o,e1,v,rfl,r⟩:=R.sl i _ e;exact⟨v,e1,k d Γ F H v R (.refl _) r h⟩
  ·rename_i ds e;obtain⟨a,F',e1,s1,R',r⟩:=R.frz e;exact⟨.ref a,e1,k _ _ F' H _ R' s1 r h⟩
  ·exact h.elim
def nG(K:W.Frag)(g:D ->D ->(D ->Prop) ->Prop):R2:=fun x y H Q=>∃F d1 d2 P,Same F H/\Rep K F d1 x/\Rep K F d2 y/\g d1 d2 P/\∀d z F' H',Gr F H F' H' ->Rep K F' d z ->P d ->Q z H'
def cB(g:D ->D ->(D ->Prop) ->Prop)(ta tb:aG):aG:=fun Γ P E=>ta Γ (fun d1 Γ1=>tb Γ1 (fun d2 Γ2=>g d1 d2 fun d=>P d Γ2) E) E
theorem Jp{K:W.Frag}{g:D ->D ->(D ->Prop) ->Prop}{E:XW}{σ:St}{H:Hp}{Q:VK}(h:xX K F0 H0 (cB g ta tb) E σ H Q):Di (nG K g) (xX K F0 H0 ta E) (xX K F0 H0 tb E) σ H Q:=by
 obtain⟨F,Γ,P,R,h,k⟩:=h;refine⟨F,Γ,_,R,h,fun d1 Γ1 F1 H1 v1 R1 s1 r1 h1=>⟨F1,Γ1,_,R1,h1,fun d2 Γ2 F2 H2 v2 R2 s2 r2 h2=>⟨F2,d1,d2,_,R2.g,r1.up s2,r2,h2,fun d z F' H' gr rz hp=> ?_⟩⟩⟩;exact k d Γ2 F' H' z (R2.grow gr) (s1.trans (s2.trans gr.f)) rz hp
theorem aR(ho:∀z,gU (X.wsh z) (binaryOp op) (nG X.K g))(ha:QE X F0 H0 a ta)(hb:QE X F0 H0 b tb):QE X F0 H0 (.BinOp a op b pos) (cB g ta tb):=fun z E cx=>
 jg (VN (ho z) (ha z E cx) (hb z E cx)) fun _ _ _ h=>Jp h
theorem zdt(ho:∀z,gU (X.wsh z) (compareOp op) (nG X.K g))(ha:QE X F0 H0 a ta)(hb:QE X F0 H0 b tb)(hm:behindInMarks op b=false):QE X F0 H0 (.Compare a [op] [b] pos) (cB g ta tb):=fun z E cx=>
 jg (zz2 (ho z) (ha z E cx) (hb z E cx) hm) fun _ _ _ h=>Jp h
def cT(t:aG):TT2:=fun Γ P E=>t Γ (fun d Γ' =>match d with | .bl c=>P c Γ' | _=>False) E
theorem WX{K:W.Frag}{E:XW}{σ:St}{H:Hp}{Q:Bool ->Hp ->Prop}(h:Ed K F0 H0 (cT te) E σ H Q):xX K F0 H0 te E σ H fun x H' =>∃c,x= .bl c/\Q c H' :=by
 obtain⟨F,Γ,P,R,h,k⟩:=h;refine⟨F,Γ,_,R,h,fun d Γ' F' H' v R' s' r q=> ?_⟩;cases d with
 | bl c=>
  unfold Rep at r;exact⟨c,r,k c Γ' F' H' R' s' q⟩
 | _=>exact False.elim q
theorem p7(ho:∀z,gU (X.wsh z) (compareOp op) (nG X.K g))(ha:QE X F0 H0 a ta)(hb:QE X F0 H0 b tb)(hm:behindInMarks op b=false):QT X F0 H0 (.Compare a [op] [b] pos) (cT (cB g ta tb)):=fun z E cx=>
 Ao (z1n (ho z) (ha z E cx) (hb z E cx) hm) fun σ H Q h=>Jp (WX h)
theorem Og(h:QE X F0 H0 e te)(he:∀whole,isTrue e X.env whole=(do let v<- whole;standAt e.pos;holding [v] (truthy v)):=by intro _;rfl):QT X F0 H0 e (cT te):=fun z E cx=>
 Ao (z4v (X:=X.wsh z) (h z E cx) he) fun _ _ _ h=>WX h
def Oh(t u:TT2):TT2:=fun Γ P E=>t Γ (fun c Γ' =>if c=true then u Γ' P E else P false Γ') E
def cOr(t u:TT2):TT2:=fun Γ P E=>t Γ (fun c Γ' =>if c=true then P true Γ' else u Γ' P E) E
def xY(t:TT2):TT2:=fun Γ P E=>t Γ (fun c Γ' =>P (!c) Γ') E
variable{rest:List Expr}{tA tB' :TT2}
theorem z4f(ha:QT X F0 H0 a tA):QT X F0 H0 (.UnaryOp .Not a pos) (xY tA):=fun z E cx=>
 Ao (z4b (ha z E cx)) fun σ H Q uh=>by obtain⟨F,Γ,P,R,h,k⟩:=uh;exact⟨F,Γ,_,R,h,fun c Γ1 F1 H1 R1 s1 q=>k _ _ _ _ R1 s1 q⟩
def nR(ta tb:aG):aG:=fun Γ P E=>ta Γ (fun d Γ' =>match d with | .bl true=>tb Γ' P E | .bl false=>P (.bl false) Γ' | _=>False) E
def uZ(ta tb:aG):aG:=fun Γ P E=>ta Γ (fun d Γ' =>match d with | .bl false=>tb Γ' P E | .bl true=>P (.bl true) Γ' | _=>False) E
def Ei(ta:aG):aG:=fun Γ P E=>ta Γ (fun d Γ' =>match d with | .bl c=>P (.bl (!c)) Γ' | _=>False) E
theorem Ej{op}(h:QE X F0 H0 a ta):QE X F0 H0 (.BoolOp op [a] pos) ta:=fun z E cx=>z4u (h z E cx)
theorem Oi(ha:QE X F0 H0 a ta)(hb:QE X F0 H0 (.BoolOp .And (b::rest) pos) tb):QE X F0 H0 (.BoolOp .And (a::b::rest) pos) (nR ta tb):=fun z E cx=>
 jg (z34 (ha z E cx) (hb z E cx)) fun σ H Q xZ=>by obtain⟨F,Γ,P,R,h,k⟩:=xZ;exact⟨F,Γ,_,R,h,fun d Γ1 F1 H1 v R1 s1 r q=>by
  cases d with
  | bl c=>
   unfold Rep at r;refine⟨c,r,?_⟩;cases c with
   | true=>rw[if_pos rfl];exact⟨F1,Γ1,P,R1,q,fun d Γ2 F2 H2 v R2 s2 r p=>k d Γ2 F2 H2 v R2 (s1.trans s2) r p⟩
   | false=>rw[if_neg Bool.false_ne_true];exact k _ _ _ _ _ R1 s1 (by unfold Rep;rfl) q
  | _=>exact False.elim q⟩
theorem WY(ha:QE X F0 H0 a ta)(hb:QE X F0 H0 (.BoolOp .Or (b::rest) pos) tb):QE X F0 H0 (.BoolOp .Or (a::b::rest) pos) (uZ ta tb):=fun z E cx=>
 jg (z52 (ha z E cx) (hb z E cx)) fun σ H Q qx=>by obtain⟨F,Γ,P,R,h,k⟩:=qx;exact⟨F,Γ,_,R,h,fun d Γ1 F1 H1 v R1 s1 r q=>by
  cases d with
  | bl c=>
   unfold Rep at r;refine⟨c,r,?_⟩;cases c with
   | false=>rw[if_neg Bool.false_ne_true];exact⟨F1,Γ1,P,R1,q,fun d Γ2 F2 H2 v R2 s2 r p=>k d Γ2 F2 H2 v R2 (s1.trans s2) r p⟩
   | true=>rw[if_pos rfl];exact k _ _ _ _ _ R1 s1 (by unfold Rep;rfl) q
  | _=>exact False.elim q⟩
def Jq(t:TT2)(ta tb:aG):aG:=fun Γ P E=>t Γ (fun c Γ' =>if c=true then ta Γ' P E else tb Γ' P E) E
theorem W0(hc:QT X F0 H0 c tA)(ha:QE X F0 H0 a ta)(hb:QE X F0 H0 b tb):QE X F0 H0 (.IfExp c a b pos) (Jq tA ta tb):=fun z E cx=>
 jg (zwh (hc z E cx) (ha z E cx) (hb z E cx)) fun σ H Q Oj=>by obtain⟨F,Γ,P,R,h,k⟩:=Oj;exact⟨F,Γ,_,R,h,fun c Γ1 F1 H1 R1 s1 q=>by
  cases c with
  | true=>rw[if_pos rfl] at q⊢;exact⟨F1,Γ1,P,R1,q,fun d Γ2 F2 H2 v R2 s2 r p=>k d Γ2 F2 H2 v R2 (s1.trans s2) r p⟩
  | false=>rw[if_neg Bool.false_ne_true] at q⊢;exact⟨F1,Γ1,P,R1,q,fun d Γ2 F2 H2 v R2 s2 r p=>k d Γ2 F2 H2 v R2 (s1.trans s2) r p⟩⟩
def aq:aZ:=fun Γ P _=>P [] Γ
def aj(t:aG)(u:aZ):aZ:=fun Γ P E=>t Γ (fun d Γ1=>u Γ1 (fun ds Γ2=>P (d::ds) Γ2) E) E
theorem aQ:QA X F0 H0 [] aq:=fun z E cx=>WW MK fun σ H Q yc=>by obtain⟨F,Γ,P,R,h,k⟩:=yc;exact k _ _ _ _ _ R (.refl _) (by unfold ak;rfl) h
theorem aA(ha:QE X F0 H0 e te)(hr:QA X F0 H0 es tr)(hs:starEach (e::es) X.env=(false,eval e X.env)::starEach es X.env:=by rfl):QA X F0 H0 (e::es) (aj te tr):=fun z E cx=>
 WW (Jf (X:=X.wsh z) (ha z E cx) (hr z E cx) hs) fun σ H Q ⟨F,Γ,P,R,h,k⟩=>
  ⟨F,Γ,_,R,h,fun d Γ1 F1 H1 v1 R1 s1 r1 h1=>⟨F1,Γ1,_,R1,h1,fun ds Γ2 F2 H2 vs R2 s2 r2 h2=>k _ _ _ _ _ R2 (s1.trans s2) (oU (r1.up s2) r2) h2⟩⟩
def jN(t:aZ):aG:=fun Γ P E=>t Γ (fun ds Γ1=>ds.length<=sizeLine/\P (.tup ds) Γ1) E
theorem um{x1}(h:QA X F0 H0 es t):QE X F0 H0 (.Tuple es x1 pos) (jN t):=fun z E cx=>
 jg (M6 (h z E cx)) fun σ H Q xr=>by obtain⟨F,Γ,P,R,h,k⟩:=xr;exact⟨F,Γ,_,R,h,fun ds Γ1 F1 H1 vs R1 s1 r1 h1=>⟨by rw[<- fY r1];exact h1.1,fun p hp=>by
  have gr:=Gr.laid (o:=HO.tup vs) R1.g hp;refine k _ _ _ _ _ (R1.grow gr) (s1.trans gr.f) ?_ h1.2;unfold Rep;exact⟨p,vs,rfl,.inl (.inl jL),r1.up gr.f⟩⟩⟩
def jo(t:aZ):aZ:=fun Γ P E=>t Γ (fun ds Γ1=>ds.length<=sizeLine/\P ds Γ1) E
theorem yd{K:W.Frag}{F H:Hp}{σ:St}{Γ:G2}{p:Addr}{vs:List V}{ds:List D}(R:SR K F0 H0 F H σ Γ)(hp:H p=none)(r:ak K F ds vs):
  SR K F0 H0 F (L2.upd H p (.lst vs)) σ Γ/\ (L2.upd H p (.lst vs)) p=some (.lst vs)/\F p=none/\H0 p=none/\Apart σ Γ p:=by
 refine⟨?_,jL,R.g.free hp,R.gr.h.free hp,R.apart hp⟩;refine R.grow ⟨.refl _,fun b u e=> ?_,fun b u e=> ?_,fun b o e n=>by rw[e] at n;cases n⟩
 ·rw[cQ (jV (R.g b u e) hp)];exact R.g b u e
 ·rw[cQ (jV e hp)];exact e
theorem rP{t:aZ}(h:QA X F0 H0 es t):QF X F0 H0 (.List es pos) (jo t):=fun z E cx=>
 jg (V0 (h z E cx)) fun σ H Q rG=>by obtain⟨F,Γ,P,R,h,k⟩:=rG;exact⟨F,Γ,_,R,h,fun ds Γ1 F1 H1 vs R1 s1 r1 h1=>⟨by rw[<- fY r1];exact h1.1,fun p hp=>by
  obtain⟨R2,e1,e2,e3,ap⟩:=yd R1 hp r1;exact k ds Γ1 F1 _ p vs R2 s1 e1 e2 e3 r1 ap h1.2⟩⟩
def fO(t:aZ):aG:=fun Γ P E=>t Γ (fun ds Γ1=>P (.lst ds) Γ1) E
theorem iC(h:QF X F0 H0 e t):QE X F0 H0 e (fO t):=fun z E cx=>
 jg (h z E cx) fun σ H Q rH=>by obtain⟨F,Γ,P,R,h,k⟩:=rH;exact⟨F,Γ,_,R,h,fun ds Γ1 F1 H1 a vs R1 s1 e1 e2 e3 r1 ap h1=>by
  obtain⟨s2,_⟩:=Ob R1.g e1 e2;refine k _ _ _ _ _ (R1.frzA e1 e2 e3 ap) (s1.trans s2) ?_ h1;unfold Rep;exact⟨a,vs,rfl,.inl (.inl jL),r1.up s2⟩⟩
variable{st:Stmt}{sts:List Stmt}{t u:au}
def dZ:au:=fun D Γ _=>D.nx Γ
def aC(t u:au):au:=fun D Γ E=>t {D with nx:=fun Γ' =>u D Γ' E} Γ E
theorem qH:pA X F0 H0 [] dZ:=fun z E cx=>Eh z2n fun D σ H Ol=>by obtain⟨F,Γ,D2,R,h,k⟩:=Ol;exact k.nx _ _ _ _ R (.refl _) h
theorem bF(h1:QS X F0 H0 st t)(h2:pA X F0 H0 sts u):pA X F0 H0 (st::sts) (aC t u):=fun z E cx=>
 Eh (zwb (h1 z E cx) (h2 z E cx)) fun D σ H Om=>by obtain⟨F,Γ,D2,R,h,k⟩:=Om;exact⟨F,Γ,_,R,h,⟨fun Γ' F' H' σ' R' s' q=>⟨F',Γ',D2,R',q,k.mono s'⟩,k.bk,k.ct,k.rt,k.rf,k.rT,k.rm⟩⟩
theorem cA(h1:QS X F0 H0 st t):pA X F0 H0 [st] t:=fun z E cx=>z1m (h1 z E cx)
def aaF:au:=fun D Γ _=>D.bk Γ
def aaG:au:=fun D Γ _=>D.ct Γ
def Ek(te:aG):au:=fun D Γ E=>te Γ (fun _ Γ1=>D.nx Γ1) E
def bV(te:aG):au:=fun D Γ E=>te Γ (fun d _=>D.rt d) E
theorem gY(he:QE X F0 H0 e te):QS X F0 H0 (.Return (some e) pos) (bV te):=fun z E cx=>
 lY (Vx (he z E cx)) fun D σ H Oo=>by obtain⟨F,Γ,D2,R,h,k⟩:=Oo;exact⟨F,Γ,_,R,h,fun d Γ1 F1 H1 v R1 s1 r1 h1=>k.rt _ _ _ _ R1.gr r1 h1⟩
def El:au:=fun D _ _=>D.rt .non
def iD(c:TT2)(t u:au):au:=fun D Γ E=>c Γ (fun b Γ1=>if b=true then t D Γ1 E else u D Γ1 E) E
theorem qI(hc:QT X F0 H0 c tA)(ha:pA X F0 H0 x t)(hb:pA X F0 H0 y u):QS X F0 H0 (.If c x y pos) (iD tA t u):=fun z E cx=>
 lY (z6f (hc z E cx) (ha z E cx) (hb z E cx)) fun D σ H Oq=>by obtain⟨F,Γ,D2,R,h,k⟩:=Oq;exact⟨F,Γ,_,R,h,fun c Γ1 F1 H1 R1 s1 q=>by
  cases c with
  | true=>rw[if_pos rfl] at q⊢;exact⟨F1,Γ1,D2,R1,q,k.mono s1⟩
  | false=>rw[if_neg Bool.false_ne_true] at q⊢;exact⟨F1,Γ1,D2,R1,q,k.mono s1⟩⟩
def Ot:au:=fun _ _ _=>False
def aO(i:Nat)(te:aG):au:=fun D Γ E=>te Γ (fun d Γ1=>D.nx (Γ1.set i (.pu d))) E
theorem dB(hN:X.N.Nodup)(hi:X.N[i]?=some x)(hx:Loc X.env.scope x)(he:QE X F0 H0 e te)(hs:swapsWith e (some (.Name x pos')) pos.line X.env=pure false:=by rfl)
  (hf:X.fn x=true\/X.env.scope.names.lookup x=some .local:=by first | exact .inl rfl | exact .inr rfl):QS X F0 H0 (.Assign [.Name x pos'] e pos) (aO i te):=fun z E cx=>
 lY (Mh (X:=X.wsh z) (i:=i) hN hi hx (he z E cx) hs hf) fun D σ H Ou=>by obtain⟨F,Γ,D2,R,h,k⟩:=Ou;exact⟨F,Γ,_,R,h,fun d Γ1 F1 H1 v R1 s1 r1 h1=>k.nx _ _ _ _ (R1.set i r1) s1 h1⟩
def gZ(i:Nat)(t:aZ):au:=fun D Γ E=>t Γ (fun ds Γ1=>D.nx (Γ1.set i (.ow ds))) E
theorem Aq(hN:X.N.Nodup)(hi:X.N[i]?=some x)(hx:Loc X.env.scope x)(he:QF X F0 H0 e tf)(hs:swapsWith e (some (.Name x pos')) pos.line X.env=pure false:=by rfl)
  (hf:X.fn x=true\/X.env.scope.names.lookup x=some .local:=by first | exact .inl rfl | exact .inr rfl):QS X F0 H0 (.Assign [.Name x pos'] e pos) (gZ i tf):=fun z E cx=>
 lY (Mh (X:=X.wsh z) (i:=i) hN hi hx (he z E cx) hs hf) fun D σ H Ov=>by obtain⟨F,Γ,D2,R,h,k⟩:=Ov;exact⟨F,Γ,_,R,h,fun ds Γ1 F1 H1 a vs R1 s1 e1 e2 e3 r1 ap h1=>k.nx _ _ _ _ (R1.setOw i e1 e2 e3 r1 ap) s1 h1⟩
end
end L3
namespace L3
open PySem PySem.Spec PyProof.Rows L2
abbrev jO:=D ->G2 ->(G2 ->Prop) ->XW ->Prop
abbrev lQ:=List D ->G2 ->(G2 ->Prop) ->XW ->Prop
section
variable(K:W.Frag)(F0 H0:Hp)
def Jr(g:jO)(E:XW):TG:=fun v σ H Q=>∃F Γ P d,SR K F0 H0 F H σ Γ/\Rep K F d v/\g d Γ P E/\∀Γ' F' H' σ',SR K F0 H0 F' H' σ' Γ' ->Same F F' ->P Γ' ->Q σ' H'
def Ow(g:lQ)(E:XW):uN:=fun vs σ H Q=>∃F Γ P ds,SR K F0 H0 F H σ Γ/\ak K F ds vs/\g ds Γ P E/\∀Γ' F' H' σ',SR K F0 H0 F' H' σ' Γ' ->Same F F' ->P Γ' ->Q σ' H'
end
def QG(X:Cx)(F0 H0:Hp)(e:Expr)(g:jO):Prop:=∀z E,Ctx (X.wsh z) F0 H0 E ->PG (X.wsh z) e (Jr X.K F0 H0 g E)
def Js(X:Cx)(F0 H0:Hp)(es:List Expr)(g:lQ):Prop:=∀z E,Ctx (X.wsh z) F0 H0 E ->xu (X.wsh z) es (Ow X.K F0 H0 g E)
section
variable{X:Cx}{F0 H0:Hp}{e tg:Expr}{es:List Expr}{pos:Pos}{te:aG}{g:jO}{gs:lQ}
theorem W3(h:PG X e t)(hi:∀v σ H Q,t' v σ H Q ->t v σ H Q):PG X e t' :=fun pins s σ H v u Q I r q=>h pins s σ H v u Q I r (hi _ _ _ _ q)
theorem Em(h:xu X es t)(hi:∀v σ H Q,t' v σ H Q ->t v σ H Q):xu X es t' :=fun pins s σ H v u Q I r q=>h pins s σ H v u Q I r (hi _ _ _ _ q)
def hName(i:Nat):jO:=fun d Γ Q _=>Q (Γ.set i (.pu d))
theorem d7(hN:X.N.Nodup)(hi:X.N[i]?=some x)(hx:Loc X.env.scope x)(hf:X.fn x=true\/X.env.scope.names.lookup x=some .local:=by first | exact .inl rfl | exact .inr rfl):QG X F0 H0 (.Name x pos) (hName i):=fun z E cx=>
 W3 (Vz (X:=X.wsh z) (i:=i) hN hi hx hf) fun v σ H Q hq1=>by obtain⟨F,Γ,P,d,R,r,h,k⟩:=hq1;exact k _ _ _ _ (R.set i r) (.refl _) h
def jP:lQ:=fun ds Γ Q _=>ds= []/\Q Γ
def bI(g:jO)(gs:lQ):lQ:=fun ds Γ Q E=>match ds with | d::r=>g d Γ (fun Γ' =>gs r Γ' Q E) E | []=>False
theorem u5:Js X F0 H0 [] jP:=fun z E cx=>Em zz4 fun vs σ H Q hq2=>by
 obtain⟨F,Γ,P,ds,R,r,h,k⟩:=hq2;obtain⟨rfl,h⟩:=h;unfold ak at r;exact⟨r,k _ _ _ _ R (.refl _) h⟩
theorem lN(h1:QG X F0 H0 e g)(h2:Js X F0 H0 es gs)(hs:(assignEach (e::es) X.env).map (·.2)=assign e X.env::(assignEach es X.env).map (·.2):=by rfl):Js X F0 H0 (e::es) (bI g gs):=fun z E cx=>
 Em (zxy (X:=X.wsh z) (h1 z E cx) (h2 z E cx) hs) fun vs σ H Q qJ=>by
  obtain⟨F,Γ,P,ds,R,r,h,k⟩:=qJ;cases ds with
  | nil=>exact False.elim h
  | cons d ds=>
   unfold ak at r;obtain⟨v,us,rfl,r1,r2⟩:=r;exact⟨v,us,rfl,F,Γ,_,d,R,r1,h,fun Γ1 F1 H1 σ1 R1 s1 q=>⟨F1,Γ1,P,ds,R1,r2.up s1,q,fun Γ2 F2 H2 σ2 R2 s2 p=>k _ _ _ _ R2 (s1.trans s2) p⟩⟩
def jQ(n:Nat)(gs:lQ):jO:=fun d Γ Q E=>match d with | .tup ds=>ds.length=n/\gs ds Γ Q E | _=>False
theorem u6(hc:X.calm=true)(h:Js X F0 H0 es gs)(hn:(assignEach es X.env).length=n:=by rfl)(hst:(assignEach es X.env).findIdx? (·.1)=none:=by rfl):QG X F0 H0 (.Tuple es k pos) (jQ n gs):=fun z E cx=>
 W3 (z4i (X:=X.wsh z) (n:=n) hc (h z E cx) hn hst) fun v σ H Q pB=>by
  obtain⟨F,Γ,P,d,R,r,h,k⟩:=pB;cases d with
  | tup ds=>
   unfold Rep at r;obtain⟨a,vs,rfl,hq,rs⟩:=r;exact⟨a,vs,rfl,j4 R.g hq,by rw[<- fY rs];exact h.1,F,Γ,P,ds,R,rs,h.2,k⟩
  | _=>exact False.elim h
def Ox(te:aG)(g:jO):au:=fun D Γ E=>te Γ (fun d Γ1=>g d Γ1 D.nx E) E
def yg(i j:Nat)(t:aZ):au:=fun D Γ E=>t Γ (fun ds Γ1=>match ds with | [x,y]=>D.nx ((Γ1.set i (.pu x)).set j (.pu y)) | _=>False) E
theorem z31{kt k2 xG}(hc:X.calm=true)(hN:X.N.Nodup)(hi:X.N[i]?=some x)(hj:X.N[j]?=some y)(hij:i≠j)
  (hx:X.env.scope.names.lookup x=some .local) (hy:X.env.scope.names.lookup y=some .local) (ha:QA X F0 H0 [a,b] t)
  (hw:swappedStores [.Tuple [.Name x px,.Name y py] kt pt] (.Tuple [a,b] k2 xG) X.env=pure (some [x,y])) (hs:swapsWithSole [.Tuple [.Name x px,.Name y py] kt pt] (.Tuple [a,b] k2 xG) pos.line X.env=pure false:=by rfl):
  QS X F0 H0 (.Assign [.Tuple [.Name x px,.Name y py] kt pt] (.Tuple [a,b] k2 xG) pos) (yg i j t):=fun z E cx=>
 lY (z3t (X:=X.wsh z) (i:=i) (j:=j) hc hN hi hj hij hx hy (ha z E cx) hw hs) fun D σ H xZ=>by obtain⟨F,Γ,D2,R,h,k⟩:=xZ;exact⟨F,Γ,_,R,h,fun ds Γ1 F1 H1 vs R1 s1 r1 h1=>by
  match ds,r1,h1 with
  | [d1,d2],r1,h1=>
   unfold ak ak ak at r1;obtain⟨v1,_,rfl,q1,v2,_,rfl,q2,rfl⟩:=r1;exact⟨v1,v2,rfl,k.nx _ _ _ _ ((R1.set i q1).set j q2) s1 h1⟩
  | [],_,h1=>exact False.elim h1
  | [_],_,h1=>exact False.elim h1
  | _::_::_::_,_,h1=>exact False.elim h1⟩
def pC(c:TT2)(tb:au):au:=fun D Γ E=>∃W:Nat ->G2 ->Prop,(∃m,W m Γ)/\∀m Γ,W m Γ ->
 c Γ (fun b Γ1=>if b=true then tb {D with nx:=fun Γ' =>∃m',m' <m/\W m' Γ',ct:=fun Γ' =>∃m',m' <m/\W m' Γ',bk:=D.nx} Γ1 E else D.nx Γ1) E
theorem W4(hc:QT X F0 H0 c tc)(hb:pA X F0 H0 body tb):QS X F0 H0 (.While c body [] pos) (pC tc tb):=fun z E cx=>
 lY (zxz cx.po (hc z E cx) (hb z E cx)) fun D σ H qx=>by
  obtain⟨F,Γ,D2,R,⟨W,⟨m,w0⟩,turn⟩,k⟩:=qx;refine⟨fun m σ H=>∃F1 Γ1,SR X.K F0 H0 F1 H σ Γ1/\Same F F1/\W m Γ1,⟨m,F,Γ,R,.refl _,w0⟩,fun m σ H ⟨F1,Γ1,R1,s1,w1⟩=>⟨F1,Γ1,_,R1,turn m Γ1 w1,fun b Γ2 F2 H2 R2 s2 q=> ?_⟩⟩;cases b with
  | true=>
   rw[if_pos rfl] at q⊢;refine⟨fun σ' H' =>∃m',m' <m/\∃F3 Γ3,SR X.K F0 H0 F3 H' σ' Γ3/\Same F F3/\W m' Γ3,fun σ' H' z=>z,F2,Γ2,_,R2,q,⟨fun Γ3 F3 H3 σ3 R3 s3 ⟨m',l,w3⟩=>⟨m',l,F3,Γ3,R3,s1.trans (s2.trans s3),w3⟩,fun Γ3 F3 H3 σ3 R3 s3 p=>k.nx _ _ _ _ R3 (s1.trans (s2.trans s3)) p,
    fun Γ3 F3 H3 σ3 R3 s3 ⟨m',l,w3⟩=>⟨m',l,F3,Γ3,R3,s1.trans (s2.trans s3),w3⟩,k.rt,k.rf,k.rT,k.rm⟩⟩
  | false=>
   rw[if_neg Bool.false_ne_true] at q⊢;exact k.nx _ _ _ _ R2 (s1.trans s2) q
def Oz(K:W.Frag)(tl:TE):TI:=fun σ H R=>tl σ H fun x H1=>∃a,x= .ref a/\ (((∃xs,fL K H1 a xs)/\R (xJ K a) H1)\/ ((∃xs,iQ K H1 a xs)/\R (vR K a) H1))
theorem W5(hl:PE X l tl):PI X tg l (Oz X.K tl):=by
 intro pins s σ H R I h;refine bD (hl pins s σ H _ I h) fun v s1 Oj=> ?_;obtain⟨x,H1,I1,r1,q1⟩:=Oj;obtain⟨a,e,q⟩:=q1;subst e;cases r1;rcases q with ⟨⟨xs,hq⟩,q⟩ | ⟨⟨xs,hq⟩,q⟩
 ·obtain⟨its,rv,p,hz⟩:=I1.list hq;refine wpAny_pyIter_list p.isList ?_;refine⟨s1.heap.objs.size,[s1.heap.objs.size],_,_,H1,rfl,I1.kept (t' :=s1.toks) fun b o e=>z8 _ e,VD a _,⟨_,z9 _ rfl,rfl,rfl⟩,fun b hb=> ?_,q⟩;obtain rfl:b=s1.heap.objs.size:=by simpa using hb
  exact I1.fpOk (zO _) (I1.hok.fresh (zO _))
 ·obtain⟨its,rv,p,hz⟩:=I1.tuple hq;refine wpAny_pyIter_tuple (show s1.heap.IsTuple a its.toArray from p) ?_;refine⟨s1.heap.objs.size,[s1.heap.objs.size],_,_,H1,rfl,I1.kept (t' :=s1.toks) fun b o e=>z8 _ e,VF a _,⟨_,z9 _ rfl,rfl,rfl⟩,fun b hb=> ?_,q⟩;obtain rfl:b=s1.heap.objs.size:=by simpa using hb
  exact I1.fpOk (zO _) (I1.hok.fresh (zO _))
def lZ(ds:List D)(g:jO)(tb:au)(D0:jm)(E:XW)(Γ:G2):Prop:=∃I:Nat ->G2 ->Prop,I 0 Γ/\
 (∀(i:Nat) x Γ,ds[i]?=some x ->I i Γ ->g x Γ (fun Γ' =>tb {D0 with nx:=I (i+1),ct:=I (i+1),bk:=D0.nx} Γ' E) E)/\∀Γ,I ds.length Γ ->D0.nx Γ
def mV(te:aG)(g:jO)(tb:au):au:=fun D0 Γ E=>te Γ (fun d Γ1=>match d with | .lst ds=>lZ ds g tb D0 E Γ1 | .tup ds=>lZ ds g tb D0 E Γ1 | _=>False) E
theorem vV(hc:X.calm=true)(hi:QE X F0 H0 iter te)(hg:QG X F0 H0 tg g)(hb:pA X F0 H0 body tb)(hs:∀x,foldedSetIterable iter X.env x=pure x:=by intro _;rfl):
  QS X F0 H0 (.For tg iter body [] pos) (mV te g tb):=fun z E cx=>
 lY (Dh (X:=X.wsh z) cx.po hc (W5 (hi z E cx)) (hg z E cx) (hb z E cx) hs) fun Dn σ H yc=>by obtain⟨F,Γ,D2,R,h,k⟩:=yc;exact⟨F,Γ,_,R,h,fun d Γ1 F1 H1 v R1 s1 r1 h1=>by
  have body:∀(ds:List L3.D) (vs:List V),ak X.K F1 ds vs ->∀I:Nat ->G2 ->Prop,(∀(i:Nat) x Γ,ds[i]?=some x ->I i Γ ->g x Γ (fun Γ' =>tb {D2 with nx:=I (i+1),ct:=I (i+1),bk:=D2.nx} Γ' E) E) ->
    ∀(i:Nat) x σ H,vs[i]?=some x ->(∃F2 Γ2,SR X.K F0 H0 F2 H σ Γ2/\Same F1 F2/\I i Γ2) ->Jr X.K F0 H0 g E x σ H fun σ2 H2=>Jo X.K F0 H0 tb E {Dn with nx:=fun σ H=>∃F2 Γ2,SR X.K F0 H0 F2 H σ Γ2/\Same F1 F2/\I (i+1) Γ2,ct:=fun σ H=>∃F2 Γ2,SR X.K F0 H0 F2 H σ Γ2/\Same F1 F2/\I (i+1) Γ2,bk:=Dn.nx} σ2 H2:=by
   rintro ds vs rs I turn i x σ H hx ⟨F2,Γ2,R2,s2,hI⟩;obtain⟨d,hd,rd⟩:=Wz rs hx;exact⟨F2,Γ2,_,d,R2,rd.up s2,turn i d Γ2 hd hI,fun Γ3 F3 H3 σ3 R3 s3 p=>⟨F3,Γ3,{D2 with nx:=I (i+1),ct:=I (i+1),bk:=D2.nx},R3,p,⟨fun Γ4 F4 H4 σ4 R4 s4 q=>⟨F4,Γ4,R4,s2.trans (s3.trans s4),q⟩,fun Γ4 F4 H4 σ4 R4 s4 q=>k.nx _ _ _ _ R4 (s1.trans (s2.trans (s3.trans s4))) q,
    fun Γ4 F4 H4 σ4 R4 s4 q=>⟨F4,Γ4,R4,s2.trans (s3.trans s4),q⟩,k.rt,k.rf,k.rT,k.rm⟩⟩⟩
  cases d with
  | lst ds=>
   unfold Rep at r1;obtain⟨a,vs,rfl,hq,rs⟩:=r1;obtain⟨I,i0,turn,done⟩:=h1;refine⟨a,rfl,.inl ⟨⟨vs,R1.g.seq hq⟩,VL (xs:=vs) (fun i σ H=>∃F2 Γ2,SR X.K F0 H0 F2 H σ Γ2/\Same F1 F2/\I i Γ2) ⟨F1,Γ1,R1,.refl _,i0⟩ (fun i σ H _ ⟨F2,Γ2,R2,s2,_⟩=>R2.g.seq (s2.seq hq)) (body ds vs rs I turn) ?_⟩⟩;rintro σ H ⟨F2,Γ2,R2,s2,hI⟩;exact k.nx _ _ _ _ R2 (s1.trans s2) (done _ (by rw[fY rs];exact hI))
  | tup ds=>
   unfold Rep at r1;obtain⟨a,vs,rfl,hq,rs⟩:=r1;obtain⟨I,i0,turn,done⟩:=h1;refine⟨a,rfl,.inr ⟨⟨vs,j4 R1.g hq⟩,z2i (xs:=vs) (fun i σ H=>∃F2 Γ2,SR X.K F0 H0 F2 H σ Γ2/\Same F1 F2/\I i Γ2) ⟨F1,Γ1,R1,.refl _,i0⟩ (fun i σ H _ ⟨F2,Γ2,R2,s2,_⟩=>j4 R2.g (j4 s2 hq)) (body ds vs rs I turn) ?_⟩⟩;rintro σ H ⟨F2,Γ2,R2,s2,hI⟩;exact k.nx _ _ _ _ R2 (s1.trans s2) (done _ (by rw[fY rs];exact hI))
  | _=>exact False.elim h1⟩
def rQ(lo:Int)(n:Nat)(g:jO)(tb:au)(D0:jm)(E:XW)(Γ:G2):Prop:=∃I:Nat ->G2 ->Prop,I 0 Γ/\
 (∀(i:Nat) Γ,i<n ->I i Γ ->g (.int (lo+i)) Γ (fun Γ' =>tb {D0 with nx:=I (i+1),ct:=I (i+1),bk:=D0.nx} Γ' E) E)/\∀Γ,I n Γ ->D0.nx Γ
theorem W6{K:W.Frag}{F1 H1:Hp}{Γ1:G2}{σ:St}{lo:Int}{n:Nat}{tb:au}{D2:jm}{D:Ends}{E:XW}(R1:SR K F0 H0 F1 H1 σ Γ1)(h:rQ lo n g tb D2 E Γ1)(k:qG K F0 H0 F1 D2 D):
  ∃W:Nat ->Nat ->St ->Hp ->Prop,(∃m,W 0 m σ H1)/\∀i m σ H,W i m σ H ->((uf lo n).stop i H/\D.nx σ H)\/ ((uf lo n).go i H/\∃N:St ->Hp ->Prop,(∀σ' H',N σ' H' ->∃m',m' <m/\W (i+1) m' σ' H')/\
   ∀x H',(uf lo n).yld i H x H' ->Jr K F0 H0 g E x σ H' fun σ2 H2=>Jo K F0 H0 tb E {D with nx:=N,ct:=N,bk:=D.nx} σ2 H2):=by
 obtain⟨I,i0,turn,done⟩:=h;refine zu1 (lo:=lo) (n:=n) (fun i σ H=>∃F2 Γ2,SR K F0 H0 F2 H σ Γ2/\Same F1 F2/\I i Γ2) ⟨F1,Γ1,R1,.refl _,i0⟩ ?_ ?_
 ·rintro i σ H hi ⟨F2,Γ2,R2,s2,hI⟩;exact⟨F2,Γ2,_,.int (lo+i),R2,by unfold Rep;rfl,turn i Γ2 hi hI,fun Γ3 F3 H3 σ3 R3 s3 p=>⟨F3,Γ3,_,R3,p,⟨fun Γ4 F4 H4 σ4 R4 s4 q=>⟨F4,Γ4,R4,s2.trans (s3.trans s4),q⟩,fun Γ4 F4 H4 σ4 R4 s4 q=>k.nx _ _ _ _ R4 (s2.trans (s3.trans s4)) q,
   fun Γ4 F4 H4 σ4 R4 s4 q=>⟨F4,Γ4,R4,s2.trans (s3.trans s4),q⟩,k.rt,k.rf,k.rT,k.rm⟩⟩⟩
 ·rintro σ H ⟨F2,Γ2,R2,s2,hI⟩;exact k.nx _ _ _ _ R2 s2 (done _ hI)
def mj(t:aZ)(g:jO)(tb:au):au:=fun D0 Γ E=>t Γ (fun ds Γ1=>match ds with | [.int j]=>(-(2^62)<=j/\j<2^62)/\rQ 0 j.toNat g tb D0 E Γ1 | _=>False) E
theorem En(hc:X.calm=true)(OD:Gl X "range")(hm:X.mg "range" =none)(ha:QA X F0 H0 [a] t)(hg:QG X F0 H0 tg g)(hb:pA X F0 H0 body tb)
  (hst:starEach [a] X.env= [(false,eval a X.env)]:=by rfl) (hs:∀x,foldedSetIterable (.Call (.Name "range" p) [a] [] pc) X.env x=pure x:=by intro _;rfl):QS X F0 H0 (.For tg (.Call (.Name "range" p) [a] [] pc) body [] pos) (mj t g tb):=fun z E cx=>
 lY (Dh (X:=X.wsh z) cx.po hc (ztq OD hm (ha z E cx) hst) (hg z E cx) (hb z E cx) hs) fun D σ H rG=>by obtain⟨F,Γ,D2,R,h,k⟩:=rG;exact⟨F,Γ,_,R,h,fun ds Γ1 F1 H1 vs R1 s1 r1 h1=>by
  split at h1
  ·rename_i j;unfold ak ak Rep at r1;obtain⟨v,_,rfl,rfl,rfl⟩:=r1;exact⟨j,rfl,h1.1.1,h1.1.2,W6 R1 h1.2 (k.mono s1)⟩
  ·exact False.elim h1⟩
def vW(t:aZ)(g:jO)(tb:au):au:=fun D0 Γ E=>t Γ (fun ds Γ1=>match ds with | [.int i,.int j]=>(-(2^62)<=i/\i<2^62/\ -(2^62)<=j/\j<2^62)/\rQ i (j - i).toNat g tb D0 E Γ1 | _=>False) E
theorem z2j(hc:X.calm=true)(OD:Gl X "range")(hm:X.mg "range" =none)(ha:QA X F0 H0 [a,b] t)(hg:QG X F0 H0 tg g)(hb:pA X F0 H0 body tb)
  (hst:starEach [a,b] X.env= [(false,eval a X.env),(false,eval b X.env)]:=by rfl) (hst2:starEach [b] X.env= [(false,eval b X.env)]:=by rfl) (hs:∀x,foldedSetIterable (.Call (.Name "range" p) [a,b] [] pc) X.env x=pure x:=by intro _;rfl):QS X F0 H0 (.For tg (.Call (.Name "range" p) [a,b] [] pc) body [] pos) (vW t g tb):=fun z E cx=>
 lY (Dh (X:=X.wsh z) cx.po hc (ztb OD hm (ha z E cx) hst hst2) (hg z E cx) (hb z E cx) hs) fun D σ H rH=>by obtain⟨F,Γ,D2,R,h,k⟩:=rH;exact⟨F,Γ,_,R,h,fun ds Γ1 F1 H1 vs R1 s1 r1 h1=>by
  split at h1
  ·rename_i i j;unfold ak ak ak Rep at r1;obtain⟨v,_,rfl,rfl,v2,_,rfl,rfl,rfl⟩:=r1;exact⟨i,j,rfl,h1.1,W6 R1 h1.2 (k.mono s1)⟩
  ·exact False.elim h1⟩
def OJ(lo st:Int)(n:Nat):It:=⟨fun i _=>i<n,fun i H x H' =>H' =H/\x= .int (lo+i*st),fun i _=>n<=i⟩
def W7(ta:TA):TI:=fun σ H R=>ta σ H fun vs H1=>∃(i j k:Int) (n:Nat),vs= [.int i,.int j,.int k]/\k≠0/\k.natAbs<1073741824/\Builtin.Range.small i j k=true/\Builtin.Range.rangeSize i j k=(n:Int)/\R (OJ i k n) H1
def O1(lo st:Int)(n:Nat)(g:jO)(tb:au)(D0:jm)(E:XW)(Γ:G2):Prop:=∃I:Nat ->G2 ->Prop,I 0 Γ/\
 (∀(i:Nat) Γ,i<n ->I i Γ ->g (.int (lo+i*st)) Γ (fun Γ' =>tb {D0 with nx:=I (i+1),ct:=I (i+1),bk:=D0.nx} Γ' E) E)/\∀Γ,I n Γ ->D0.nx Γ
def W8(t:aZ)(g:jO)(tb:au):au:=fun D0 Γ E=>t Γ (fun ds Γ1=>match ds with
 | [.int i,.int j,.int k]=>∃n:Nat,k≠0/\k.natAbs<1073741824/\Builtin.Range.small i j k=true/\Builtin.Range.rangeSize i j k=(n:Int)/\O1 i k n g tb D0 E Γ1
 | _=>False) E
end
abbrev cD:=List D ->(D ->Prop) ->(Value ->Prop) ->Prop
def jR(K:W.Frag)(sp:cD):Sp:=fun vs H Q E=>∃F ds P Ex,Same F H/\ak K F ds vs/\sp ds P Ex/\ (∀d v F' H',Gr F H F' H' ->Rep K F' d v ->P d ->Q v H')/\∀C H',Ex C ->Same H H' ->E C none H'
def aF(sp:cD)(t:aZ):aG:=fun Γ P E=>t Γ (fun ds Γ1=>sp ds (fun d=>P d Γ1) fun C=>E Γ1 C) E
section
variable{X:Cx}{F0 H0:Hp}{e:Expr}{es:List Expr}{pos p:Pos}{x:Str}{f:Addr}{fd:FuncData}{ps:List Str}{k:Nat}{sp:cD}{t:aZ}
theorem O2(Fn:dX X.prog X.w X.K X.mg X.base (gK X.prog X.w) k f fd ps (jR X.K sp))(hr:eN k X.A)(hb:Binds X.K fd ps [])(cx:Ctx (X.wsh z) F0 H0 E)
  (I:Inv (X.wsh z) pins σ H s) (R:SR X.K F0 H0 F H σ Γ) (r:Vals vs us) (rs:ak X.K F ds vs) (h:sp ds P fun C=>E Γ C) (hQ:∀d v F' H',Gr F H F' H' ->Rep X.K F' d v ->P d ->Q v H'):
  wpAny (model X.prog X.w) X.A (call (.ref f) us) (EP (X.wsh z) pins σ Q) z.xe s:=by
 have hs:jR X.K sp vs H Q (fun C dx H' =>E Γ C/\dx=none/\Same H H'):=⟨F,ds,P,_,R.g,rs,h,hQ,fun C H' hE hS=>⟨hE,rfl,hS⟩⟩;have hl:(us++ []).length=ps.length:=by rw[List.append_nil,<- r.length];exact Fn.len _ _ _ _ hs
 have hbs:=hb s us I.kIn hl;rw[List.append_nil] at hbs;refine wpAny_call (codeAny_mono (Fn.run X.A X.stack s H ⟨us,[]⟩ us vs Q _ hr I.env0 hbs r hs) fun r s' hq=> ?_);cases r with
 | error e=>exact cx.px pins σ Γ F H s e s' I R hq
 | ok fl=>
  cases fl with
  | ret u=>exact I.after hq
  | next=>exact False.elim hq
  | brk=>exact False.elim hq
  | cont=>exact False.elim hq
theorem z2b(Fn:dX X.prog X.w X.K X.mg X.base (gK X.prog X.w) k f fd ps (jR X.K sp))(hr:eN k X.A)(hg:Gl X x)(hm:X.mg x=some (.ref f))(hk:W.keepIn X.K (.ref f)=true)(hb:Binds X.K fd ps [])
  (ha:QA X F0 H0 (e::es) t) (hdb:(x==("__debug__" :Str))=false:=by decide) (he:starEach (e::es) X.env=(false,eval e X.env)::starEach es X.env:=by rfl) (hpl:(backTo pos (starEach es X.env)).any (·.1)=false:=by rfl):
  QE X F0 H0 (.Call (.Name x p) (e::es) [] pos) (aF sp t):=by
 rintro z E cx pins s σ H Q I ⟨F,Γ,P,R,h,kk⟩;refine wpAny_Call_Name_kw (Lq (X:=X.wsh z) I hg hm ?_ hdb);refine W.callWith_K (h₀:=X.base) I.ok.mod.Cz hk (bD (ha z E cx pos pins s σ H (fun vs H1=>∃F1 Γ1 ds,SR X.K F0 H0 F1 H1 σ Γ1/\Same F F1/\ak X.K F1 ds vs/\sp ds (fun d=>P d Γ1) fun C=>E Γ1 C) I ⟨F,Γ,_,R,h,fun ds Γ1 F1 H1 vs R1 s1 r1 h1=>⟨F1,Γ1,ds,R1,s1,r1,h1⟩⟩) fun us s1 rR=> ?_) he hpl;obtain⟨vs,H1,I1,r,F1,Γ1,ds,R1,sF,rs,q⟩:=rR;refine⟨I1.kIn,?_⟩;exact O2 Fn hr hb cx I1 R1 r rs q fun d v F' H' gr rv hp=>kk d Γ1 F' H' v (R1.grow gr) (sF.trans gr.f) rv hp
end
def aH(n:Nat)(ds:List D):G2:=ds.map .pu++List.replicate (n - ds.length) .no
abbrev gh(N:List Str)(ds:List D):G2:=aH N.length ds
theorem W9{K:W.Frag}{F0 H:Hp}{N:List Str}{ds:List D}{vs:List V}(h:Same F0 H)(r:ak K F0 ds vs):SR K F0 H F0 H (L2.start N vs) (gh N ds):=by
 have hl:=fY r;refine⟨Gr.refl h,by simp [L2.start,gh,aH,hl],fun i s e=> ?_,fun i j a e _=> ?_⟩
 ·unfold gh aH at e;unfold L2.start;by_cases hi:i<ds.length
  ·rw[List.getElem?_append_left (by simpa using hi),List.getElem?_map] at e
   cases q:ds[i]? with
   | none=>rw[q] at e;cases e
   | some d=>
    rw[q] at e;cases e;obtain⟨v,e1,r1⟩:=nP r q;refine⟨some v,?_,v,rfl,r1⟩;rw[List.getElem?_append_left (by rw[List.length_map,<- hl];exact hi),List.getElem?_map,e1];rfl
  ·rw[List.getElem?_append_right (by simpa using hi),List.getElem?_replicate] at e
   split at e
   ·cases e;rename_i hlt;simp only [List.length_map] at hlt;refine⟨none,?_,trivial⟩;rw[List.getElem?_append_right (by rw[List.length_map,<- hl];omega),List.getElem?_replicate,if_pos (by rw[List.length_map,<- hl];exact hlt)]
   ·cases e
 ·exfalso
  obtain⟨s,o,e,_,hs⟩:=e;unfold gh aH at e;by_cases hi:i<ds.length
  ·rw[List.getElem?_append_left (by simpa using hi),List.getElem?_map] at e
   cases q:ds[i]? with
   | none=>rw[q] at e;cases e
   | some d=>rw[q] at e;cases e;exact hs
  ·rw[List.getElem?_append_right (by simpa using hi),List.getElem?_replicate] at e
   split at e
   ·cases e;exact hs
   ·cases e
section
variable{P:Program}{w:World}{K:W.Frag}{mg:Str ->Option Value}{base:Heap}
theorem jh{x qual:Str}{st:Stmt}{f:Addr}{fd:FuncData}{N ps:List Str}{k:Nat}{sp:cD}(Fn:fM K x qual st f fd)(S:aB N ps (bU st))(len:∀ds Q E,sp ds Q E ->ds.length=ps.length)
  (hbody:∀(cdv:Value) (A:Around) (outer:List Env) (s:Shared) (H:Hp) (E:XK),eN k (A.deeper (envOfC qual (bU st) s.heap.objs.size f cdv)) ->∀F0:Hp,
   ∃t,pA (jM (gK P w) P w K mg base N qual (bU st) f cdv A outer s H E) F0 H (rJ st) t/\∀ds Q Ex,sp ds Q Ex ->t {nx:=fun _=>Q .non,rt:=Q} (gh N ds) fun _=>Ex):
  dX P w K mg base (gK P w) (k+1) f fd ps (jR K sp):=by
 obtain⟨oc,od,kV,doc,pm,an,cdv,ct,osl,rfl,lk,hcd⟩:=Fn.ex;refine Wb lk hcd S (fun vs H Q E ⟨F,ds,P',Ex,_,rs,hs,_⟩=>by rw[<- fY rs];exact len _ _ _ hs) fun A outer s H vs Q E hr ⟨F0,ds,Pd,Ex,sF,rs,hsp,hQ,hE⟩=> ?_
 obtain⟨t,ht,hq⟩:=hbody cdv A outer s H E hr F0;have cx:Ctx ((jM (gK P w) P w K mg base N qual (bU st) f cdv A outer s H E).wsh ⟨(jM (gK P w) P w K mg base N qual (bU st) f cdv A outer s H E).xe,[]⟩) F0 H (fun _=>Ex):=by
  refine⟨fun pins σ Γ F H1 s1 e s' I R hx=> ?_,PassesOwn.leaving⟩;refine bD (WQ (E:=fun C dx H' =>E C dx H') I rfl rfl rfl (hx.imp fun C dx H' z=> ?_)) fun _ s'' z=>z;obtain⟨Γ',F',R',_,z1,rfl⟩:=z;exact hE C H' z1 R'.gr.h
 exact⟨_,ht _ _ cx,F0,gh N ds,{nx:=fun _=>Pd .non,rt:=Pd},W9 sF rs,hq ds Pd Ex hsp,⟨fun Γ F' H' σ R' _ q=>hQ _ _ _ _ R'.gr (by unfold Rep;rfl) q,fun _ _ _ _ _ _ q=>q,fun _ _ _ _ _ _ q=>q,fun d v F' H' gr rv q=>hQ d v F' H' gr rv q,fun _ _ _ _ _ _ q=>q.elim,fun _ _ _ _ _ _ _ _ _ q=>q.elim,fun _ _ _ _ _ _ _ _ q=>q.elim⟩⟩
end
def aU(i:Int):Nat:=Builtin.Int.intBits i
theorem z2r(h:aU i+aU j<=100000000):IntMulOk i j:=by
 unfold aU at h;unfold IntMulOk;intro z;simp only [Bool.and_eq_true,decide_eq_true_eq] at z;have z2:=z.2;unfold Builtin.Int.intTooBig at z2;have hb:bitsLine=134217728:=by rfl
 rw[hb] at z2;have:=of_decide_eq_true z2;omega
theorem eU(h:i.natAbs<2^k):aU i<=k:=by
 unfold aU Builtin.Int.intBits;split
 ·exact Nat.zero_le _
 ·rename_i q;have n0:i.natAbs≠0:=fun z=>by
   have:i=0:=Int.natAbs_eq_zero.mp z;subst this;exact q rfl
  have:=(Nat.log2_lt n0).mpr h;omega
theorem yh(h:aU i<=k):i.natAbs<2^k:=by
 unfold aU Builtin.Int.intBits at h;split at h
 ·rename_i q;have:i=0:=by simpa using q
  subst this;exact Nat.two_pow_pos k
 ·rename_i q;have n0:i.natAbs≠0:=fun z=>by
   have:i=0:=Int.natAbs_eq_zero.mp z;subst this;exact q rfl
  exact(Nat.log2_lt n0).mp (by omega)
theorem qK(i j:Int):aU (i*j)<=aU i+aU j:=by
 refine eU ?_;rw[Int.natAbs_mul,Nat.pow_add];exact Nat.mul_lt_mul'' (yh (zO _)) (yh (zO _))
theorem Eo(i j:Int):aU (i+j)<=max (aU i) (aU j)+1:=by
 refine eU ?_;have h1:i.natAbs<2^ (max (aU i) (aU j)):=yh (Nat.le_max_left _ _);have h2:j.natAbs<2^ (max (aU i) (aU j)):=yh (Nat.le_max_right _ _);have h3:=Int.natAbs_add_le i j;rw[Nat.pow_succ];omega
theorem z2k(i:Int):aU (-i)=aU i:=by unfold aU Builtin.Int.intBits;simp
theorem Ep(i j:Int):aU (i - j)<=max (aU i) (aU j)+1:=by
 have h:=Eo i (-j);rw[z2k,<- Int.sub_eq_add_neg] at h;exact h
theorem rC(h:i.natAbs<=j.natAbs):aU i<=aU j:=eU (zM h (yh (zO _)))
section
variable{X:Cx}
theorem Jt{f:Value ->Value ->Sem Value}{C:Int ->Int ->Prop}{v:Int ->Int ->V}{d:Int ->Int ->D}{g:D ->D ->(D ->Prop) ->Prop}(ho:gU X f (rI C v))(hg:∀x y P,g x y P ->∃i j,x= .int i/\y= .int j/\C i j/\P (d i j))(hd:∀i j F,Rep X.K F (d i j) (v i j)):gU X f (nG X.K g):=by
 rintro pins s σ H x y u w Q I rx ry ⟨F,d1,d2,P,sF,r1,r2,h,k⟩;obtain⟨i,j,rfl,rfl,hc,hp⟩:=hg _ _ _ h;unfold Rep at r1 r2;subst r1 r2;exact ho pins s σ H _ _ u w Q I rx ry ⟨i,j,rfl,rfl,hc,k _ _ F H (Gr.refl sF) (hd i j F) hp⟩
theorem O3{f:Value ->Value ->Sem Value}{v:Int ->Int ->V}{d:Int ->Int ->D}{g:D ->D ->(D ->Prop) ->Prop}(ho:gU X f (xK v))(hg:∀x y P,g x y P ->∃i j,x= .int i/\y= .int j/\P (d i j))(hd:∀i j F,Rep X.K F (d i j) (v i j)):gU X f (nG X.K g):=by
 rintro pins s σ H x y u w Q I rx ry ⟨F,d1,d2,P,sF,r1,r2,h,k⟩;obtain⟨i,j,rfl,rfl,hp⟩:=hg _ _ _ h;unfold Rep at r1 r2;subst r1 r2;exact ho pins s σ H _ _ u w Q I rx ry ⟨i,j,rfl,rfl,k _ _ F H (Gr.refl sF) (hd i j F) hp⟩
def wI(C:Int ->Int ->Prop)(d:Int ->Int ->D):D ->D ->(D ->Prop) ->Prop:=fun x y P=>match x,y with
 | .int i,.int j=>C i j/\P (d i j)
 | _,_=>False
theorem Ju(h:wI C d x y P):∃i j,x= .int i/\y= .int j/\C i j/\P (d i j):=by
 unfold wI at h;split at h
 ·exact⟨_,_,rfl,rfl,h⟩
 ·exact h.elim
def vX(d:Int ->Int ->D):D ->D ->(D ->Prop) ->Prop:=fun x y P=>match x,y with
 | .int i,.int j=>P (d i j)
 | _,_=>False
theorem O4(h:vX d x y P):∃i j,x= .int i/\y= .int j/\P (d i j):=by
 unfold vX at h;split at h
 ·exact⟨_,_,rfl,rfl,h⟩
 ·exact h.elim
def d8:D ->D ->(D ->Prop) ->Prop:=fun x y P=>match x,y with
 | .int i,.int j=>P (.int (i+j))
 | .str i,.str j=>i.length+j.length<=sizeLine/\P (.str (i++j))
 | _,_=>False
theorem mq:gU X (binaryOp .Add) (nG X.K d8):=by
 rintro pins s σ H x y u w Q I rx ry ⟨F,d1,d2,P,sF,r1,r2,h,k⟩;unfold d8 at h;split at h
 ·unfold Rep at r1 r2;subst r1 r2;exact z3e pins s σ H _ _ u w Q I rx ry ⟨_,_,rfl,rfl,k _ _ F H (Gr.refl sF) (by unfold Rep;rfl) h⟩
 ·unfold Rep at r1 r2;subst r1 r2;exact zrv pins s σ H _ _ u w Q I rx ry ⟨_,_,rfl,rfl,h.1,k _ _ F H (Gr.refl sF) (by unfold Rep;rfl) h.2⟩
 ·exact h.elim
def jW:D ->D ->(D ->Prop) ->Prop:=vX fun i j=> .int (i - j)
theorem yj:gU X (binaryOp .Sub) (nG X.K jW):=O3 z4x (fun _ _ _ h=>O4 h) fun _ _ _=>by unfold Rep;rfl
def j6(i j:Int):Prop:=aU i<=64\/aU j<=64\/aU i+aU j<=100000000
theorem j6.ok(h:j6 i j):IntMulOk i j:=by
 rcases h with h | h | h
 ·exact .of_left h
 ·exact .of_right h
 ·exact z2r h
def bM:D ->D ->(D ->Prop) ->Prop:=wI j6 fun i j=> .int (i*j)
theorem fZ:gU X (binaryOp .Mult) (nG X.K bM):=Jt (C:=j6) (v:=fun i j=> .int (i*j)) (Je fun i j _ _ _ _ _ hc q=>mul_int q hc.ok) (fun _ _ _ h=>Ju h) fun _ _ _=>by unfold Rep;rfl
def fH:D ->D ->(D ->Prop) ->Prop:=wI (fun _ j=>j≠0/\aU j<=9000) fun i j=> .int (i.fdiv j)
theorem nH:gU X (binaryOp .FloorDiv) (nG X.K fH):=Jt (C:=fun _ j=>j≠0/\aU j<=9000) (v:=fun i j=> .int (i.fdiv j)) (Je fun i j _ _ _ _ _ hc q=>floordiv_int hc.1 q (.inl (PyProof.noPylong_of_log2 (by
 have:=yh hc.2;exact(Nat.log2_lt (fun z=>hc.1 (Int.natAbs_eq_zero.mp z))).mpr this)))) (fun _ _ _ h=>Ju h) fun _ _ _=>by unfold Rep;rfl
def cL:D ->D ->(D ->Prop) ->Prop:=wI (fun _ j=>j≠0) fun i j=> .int (i.fmod j)
theorem ji:gU X (binaryOp .Mod) (nG X.K cL):=Jt (C:=fun _ j=>j≠0) z1q (fun _ _ _ h=>Ju h) fun _ _ _=>by unfold Rep;rfl
def u9:D ->D ->(D ->Prop) ->Prop:=wI uP fun i j=> .int (i^j.toNat)
theorem Xa:gU X (binaryOp .Pow) (nG X.K u9):=Jt z4g (fun _ _ _ h=>Ju h) fun _ _ _=>by unfold Rep;rfl
def Er:D ->D ->(D ->Prop) ->Prop:=vX fun i j=> .bl (decide (i<j))
theorem yp:gU X (compareOp .Lt) (nG X.K Er):=O3 z5i (fun _ _ _ h=>O4 h) fun _ _ _=>by unfold Rep;rfl
def gLe:D ->D ->(D ->Prop) ->Prop:=vX fun i j=> .bl (decide (i<=j))
def Ar:D ->D ->(D ->Prop) ->Prop:=vX fun i j=> .bl (decide (j<i))
theorem vd:gU X (compareOp .Gt) (nG X.K Ar):=O3 z5s (fun _ _ _ h=>O4 h) fun _ _ _=>by unfold Rep;rfl
def gGe:D ->D ->(D ->Prop) ->Prop:=vX fun i j=> .bl (decide (j<=i))
def rW:D ->Bool | .non=>true | _=>false
def gIs:D ->D ->(D ->Prop) ->Prop:=fun x y P=>match y with | .non=>P (.bl (rW x)) | .bl d=>(match x with | .bl c=>P (.bl (c==d)) | _=>False) | _=>False
def O5:D ->D ->(D ->Prop) ->Prop:=fun x y P=>match y with | .non=>P (.bl (!rW x)) | .bl d=>(match x with | .bl c=>P (.bl (c !=d)) | _=>False) | _=>False
mutual
def eF:D ->D ->Bool
 | .non,.non=>true
 | .bl a,.bl b=>a==b
 | .int a,.int b=>a==b
 | .str a,.str b=>a==b
 | .tup xs,.tup ys=>cX xs ys
 | .lst xs,.lst ys=>cX xs ys
 | .exc a,.exc b=>a==b
 | .ptr a,.ptr b=>a==b
 | .obj C fs xs,.obj C' fs' ys=>decide (C=C')&&decide (fs=fs')&&cX xs ys
 | .dic ks xs,.dic ks' ys=>decide (ks=ks')&&cX xs ys
 | .dG ks xs,.dG ks' ys=>decide (ks=ks')&&cX xs ys
 | .nO ks xs,.nO ks' ys=>decide (ks=ks')&&cX xs ys
 | _,_=>false
def cX:List D ->List D ->Bool
 | [],[]=>true
 | x::xs,y::ys=>eF x y&&cX xs ys
 | _,_=>false
end
@[simp] def kd:D ->Nat
 | .non=>0
 | .bl _=>1
 | .int _=>2
 | .str _=>3
 | .tup _=>4
 | .lst _=>5
 | _=>6
@[simp] def p8 (d d' :D):Bool:=kd d<6&&kd d' <6&&(kd d !=kd d' || kd d<4)&&(kd d !=1 || kd d' !=2)&&(kd d !=2 || kd d' !=1)
def mz:Nat ->D ->D ->Prop
 | n+1,.tup xs,.tup ys=>∀(i:Nat) x y,xs[i]?=some x ->ys[i]?=some y ->mz n x y
 | n+1,.lst xs,.lst ys=>∀(i:Nat) x y,xs[i]?=some x ->ys[i]?=some y ->mz n x y
 | _,d,d' =>p8 d d' =true
end
mutual
theorem Es:∀d:D,eF d d=true
 | .non=>by simp [eF]
 | .bl _=>by simp [eF]
 | .int _=>by simp [eF]
 | .str _=>by simp [eF]
 | .tup xs=>by unfold eF;exact yq xs
 | .lst xs=>by unfold eF;exact yq xs
 | .exc _=>by simp [eF]
 | .ptr _=>by simp [eF]
 | .obj _ _ xs=>by unfold eF;rw[yq xs];simp
 | .dic _ xs=>by unfold eF;rw[yq xs];simp
 | .dG _ xs=>by unfold eF;rw[yq xs];simp
 | .nO _ xs=>by unfold eF;rw[yq xs];simp
theorem yq:∀ds:List D,cX ds ds=true
 | []=>by simp [cX]
 | d::ds=>by unfold cX;rw[Es d,yq ds];rfl
end
open Classical in
theorem O6:∀{xs ys:List D},xs.length=ys.length ->(∀e:Nat ->Bool,(∀(i:Nat) x y,xs[i]?=some x ->ys[i]?=some y ->e i=eF x y) ->(List.range xs.length).all e=cX xs ys)
 | [],[],_,_,_=>by simp [cX]
 | x::xs,y::ys,hl,e,he=>by
  have ih:=O6 (xs:=xs) (ys:=ys) (by simpa using hl) (fun i=>e (i+1)) fun i a b h1 h2=>he (i+1) a b (by simpa using h1) (by simpa using h2)
  rw[List.length_cons,List.range_succ_eq_map,List.all_cons,List.all_map];unfold cX;rw[he 0 x y rfl rfl]
  congr 1
theorem O7:∀{xs ys:List D},xs.length≠ys.length ->cX xs ys=false
 | [],[],h=>absurd rfl h
 | [],_::_,_=>by simp [cX]
 | _::_,[],_=>by simp [cX]
 | x::xs,y::ys,h=>by
  unfold cX;rw[O7 (fun z=>h (by simp [z])),Bool.and_false]
end L3
namespace L3
open PySem PySem.Spec PyProof.Rows L2
theorem Xb:∀{xs ys:List D},xs.length=ys.length ->(∀(i:Nat) x y,xs[i]?=some x ->ys[i]?=some y ->eF x y=true) ->cX xs ys=true
 | [],[],_,_=>by simp [cX]
 | x::xs,y::ys,hl,h=>by
  unfold cX;rw[h 0 x y rfl rfl,Xb (by simpa using hl) fun i a b h1 h2=>h (i+1) a b (by simpa using h1) (by simpa using h2)]
  rfl
section
variable{X:Cx}{pins:bA}{σ:St}{F H:Hp}{s:Shared}
theorem Xc(I:Inv X pins σ H s){a:Addr}{xs ys:List V}(h:fL X.K H a xs)(h' :iQ X.K H a ys):False:=by
 obtain⟨its,_,⟨o,n,e,c,_,_⟩,_⟩:=I.list h;obtain⟨its',_,⟨o',e',c',_⟩,_⟩:=I.tuple h';rw[e] at e';cases e';rw[c] at c';injection c' with c';exact absurd c' (by decide)
theorem Jv{n:Nat}{d d' :D}(hc:mz n d d'):p8 d d' =true\/ (∃m xs ys,n=m+1/\d= .tup xs/\d' = .tup ys/\∀(i:Nat) x y,xs[i]?=some x ->ys[i]?=some y ->mz m x y)\/
  ∃m xs ys,n=m+1/\d= .lst xs/\d' = .lst ys/\∀(i:Nat) x y,xs[i]?=some x ->ys[i]?=some y ->mz m x y:=by
 unfold mz at hc;split at hc
 ·exact .inr (.inl ⟨_,_,_,rfl,rfl,rfl,hc⟩)
 ·exact .inr (.inr ⟨_,_,_,rfl,rfl,rfl,hc⟩)
 ·exact .inl hc
theorem Xd(I:Inv X pins σ H s)(sF:Same F H):∀(n:Nat) (d d' :D) (v:V),mz n d d' ->Rep X.K F d v ->Rep X.K F d' v ->eF d d' =true:=by
 have flat:∀(d d' :D) (v:V),p8 d d' =true ->Rep X.K F d v ->Rep X.K F d' v ->eF d d' =true:=by
  intro d d' v hf r r';cases d with
  | non=>simp only [Rep] at r;subst r;cases d' <;>simp only [Rep] at r' <;>first | rfl | (cases hf;done) | (cases r';done) | (obtain⟨_,_,z,_⟩:=r';cases z)
  | bl=>simp only [Rep] at r;subst r;cases d' <;>simp only [Rep] at r' <;>first | (cases hf;done) | (cases r';done) | (cases r';exact Es _) | (obtain⟨_,_,z,_⟩:=r';cases z)
  | int=>simp only [Rep] at r;subst r;cases d' <;>simp only [Rep] at r' <;>first | (cases hf;done) | (cases r';done) | (cases r';exact Es _) | (obtain⟨_,_,z,_⟩:=r';cases z)
  | str=>simp only [Rep] at r;subst r;cases d' <;>simp only [Rep] at r' <;>first | (cases hf;done) | (cases r';done) | (cases r';exact Es _) | (obtain⟨_,_,z,_⟩:=r';cases z)
  | tup=>simp only [Rep] at r;obtain⟨a,vs,rfl,h1,_⟩:=r;cases d' <;>simp only [Rep] at r' <;>first | (cases hf;done) | (cases r';done) | (obtain⟨_,_,z,h2,_⟩:=r';cases z;exact(Xc I (sF.seq h2) (j4 sF h1)).elim)
  | lst=>simp only [Rep] at r;obtain⟨a,vs,rfl,h1,_⟩:=r;cases d' <;>simp only [Rep] at r' <;>first | (cases hf;done) | (cases r';done) | (obtain⟨_,_,z,h2,_⟩:=r';cases z;exact(Xc I (sF.seq h1) (j4 sF h2)).elim)
  | _=>cases hf
 intro n;induction n with
 | zero=>
  intro d d' v hc r r';rcases Jv hc with h | ⟨_,_,_,h,_⟩ | ⟨_,_,_,h,_⟩
  ·exact flat d d' v h r r'
  ·cases h
  ·cases h
 | succ n ih=>
  intro d d' v hc r r';have go:∀{xs ys:List D} {vs us:List V},vs=us ->ak X.K F xs vs ->ak X.K F ys us ->(∀(i:Nat) x y,xs[i]?=some x ->ys[i]?=some y ->mz n x y) ->cX xs ys=true:=by
   intro xs ys vs us e r1 r2 hc;subst e;refine Xb (by rw[fY r1,fY r2]) fun i x y h1 h2=> ?_
   obtain⟨v1,e1,q1⟩:=nP r1 h1;obtain⟨v2,e2,q2⟩:=nP r2 h2;rw[e1] at e2;cases e2;exact ih x y v1 (hc i x y h1 h2) q1 q2
  rcases Jv hc with h | ⟨_,xs,ys,h,rfl,rfl,hc⟩ | ⟨_,xs,ys,h,rfl,rfl,hc⟩
  ·exact flat d d' v h r r'
  ·cases h;simp only [Rep] at r r';obtain⟨a,vs,rfl,h1,q1⟩:=r;obtain⟨b,us,z,h2,q2⟩:=r';cases z;unfold eF;exact go (I.tuple_inj (j4 sF h1) (j4 sF h2)) q1 q2 hc
  ·cases h;simp only [Rep] at r r';obtain⟨a,vs,rfl,h1,q1⟩:=r;obtain⟨b,us,z,h2,q2⟩:=r';cases z;unfold eF;exact go (I.list_inj (sF.seq h1) (sF.seq h2)) q1 q2 hc
structure Xe (A:Around) (s:Shared) (v u:Value) (b:Bool):Prop where
 eq:SeqAt.EqAt A s v u b
 rc:SeqAt.RcAt A s v u b
 ne:SeqAt.RcNeAt A s v u (!b)
theorem zth{n m:Nat}(e:Nat ->Bool)(h:n=m):((List.range (min n m)).all e&&n==m)=(List.range n).all e:=by
 subst h;simp
def Kn(s:Shared):D ->Value ->Prop
 | .non,v=>v= .none
 | .bl b,v=>v= .bool b
 | .int i,v=>∃t,v= .int i t
 | .str x,v=>∃t,v= .str x t
 | .tup _,v=>∃l,v= .ref l/\∃is,IsTup s.heap l is
 | .lst _,v=>∃l,v= .ref l/\∃is,s.heap.IsList l is
 | _,_=>True
theorem kn(I:Inv X pins σ H s)(sF:Same F H){d:D}{x:V}{v:Value}(r:Rep X.K F d x)(rv:RelV x v):Kn s d v:=by
 cases d<;>simp only [Rep] at r<;>unfold Kn<;>try trivial
 case non=>subst r;cases rv;rfl
 case bl=>subst r;cases rv;rfl
 case int=>subst r;obtain⟨t,rfl⟩:=rv;exact⟨t,rfl⟩
 case str=>subst r;obtain⟨t,rfl⟩:=rv;exact⟨t,rfl⟩
 case tup=>
  obtain⟨l,vs,rfl,h,_⟩:=r;cases rv;obtain⟨is,_,k,_⟩:=I.tuple (j4 sF h);exact⟨l,rfl,_,k⟩
 case lst=>
  obtain⟨l,vs,rfl,h,_⟩:=r;cases rv;obtain⟨is,_,k,_⟩:=I.list (sF.seq h);exact⟨l,rfl,_,k.isList⟩
theorem Xf{A:Around}{d d' :D}{v u:Value}(hu0:A.units<cLine)(hf:p8 d d' =true)(a:Kn s d v)(b:Kn s d' u):Xe A s v u (eF d d'):=by
 cases d with
 | non=>
  obtain rfl:=a;cases d' with
  | non=>obtain rfl:=b;exact⟨.same _,.none_none,.none_none⟩
  | bl _=>obtain rfl:=b;exact⟨.none_bool _,.none_bool _,.none_bool _⟩
  | int _=>obtain⟨_,rfl⟩:=b;exact⟨.none_int _ _,.none_int _ _,.none_int _ _⟩
  | str _=>obtain⟨_,rfl⟩:=b;exact⟨.none_str _ _,.none_str _ _,.none_str _ _⟩
  | tup _=>obtain⟨_,rfl,_,k2⟩:=b;exact⟨.none_tuple k2 hu0,.none_tuple k2 hu0,.none_tuple k2 hu0⟩
  | lst _=>obtain⟨_,rfl,_,k2⟩:=b;exact⟨.none_list k2 hu0,.none_list k2 hu0,.none_list k2 hu0⟩
  | _=>cases hf
 | bl _=>
  obtain rfl:=a;cases d' with
  | non=>obtain rfl:=b;exact⟨.bool_none _,.bool_none _,.bool_none _⟩
  | bl _=>obtain rfl:=b;exact⟨.bool_bool _ _,.bool_bool _ _,.bool_bool _ _⟩
  | str _=>obtain⟨_,rfl⟩:=b;exact⟨.bool_str _ _ _,.bool_str _ _ _,.bool_str _ _ _⟩
  | tup _=>obtain⟨_,rfl,_,k2⟩:=b;exact⟨.bool_tuple _ k2 hu0,.bool_tuple _ k2 hu0,.bool_tuple _ k2 hu0⟩
  | lst _=>obtain⟨_,rfl,_,k2⟩:=b;exact⟨.bool_list _ k2 hu0,.bool_list _ k2 hu0,.bool_list _ k2 hu0⟩
  | _=>cases hf
 | int _=>
  obtain⟨_,rfl⟩:=a;cases d' with
  | non=>obtain rfl:=b;exact⟨.int_none _ _,.int_none _ _,.int_none _ _⟩
  | int _=>obtain⟨_,rfl⟩:=b;exact⟨.int_int _ _ _ _,.int_int _ _ _ _,.int_int _ _ _ _⟩
  | str _=>obtain⟨_,rfl⟩:=b;exact⟨.int_str _ _ _ _,.int_str _ _ _ _,.int_str _ _ _ _⟩
  | tup _=>obtain⟨_,rfl,_,k2⟩:=b;exact⟨.int_tuple _ _ k2 hu0,.int_tuple _ _ k2 hu0,.int_tuple _ _ k2 hu0⟩
  | lst _=>obtain⟨_,rfl,_,k2⟩:=b;exact⟨.int_list _ _ k2 hu0,.int_list _ _ k2 hu0,.int_list _ _ k2 hu0⟩
  | _=>cases hf
 | str _=>
  obtain⟨_,rfl⟩:=a;cases d' with
  | non=>obtain rfl:=b;exact⟨.str_none _ _,.str_none _ _,.str_none _ _⟩
  | bl _=>obtain rfl:=b;exact⟨.str_bool _ _ _,.str_bool _ _ _,.str_bool _ _ _⟩
  | int _=>obtain⟨_,rfl⟩:=b;exact⟨.str_int _ _ _ _,.str_int _ _ _ _,.str_int _ _ _ _⟩
  | str _=>obtain⟨_,rfl⟩:=b;exact⟨.str_str _ _ _ _,.str_str _ _ _ _,.str_str _ _ _ _⟩
  | tup _=>obtain⟨_,rfl,_,k2⟩:=b;exact⟨.str_tuple _ _ k2 hu0,.str_tuple _ _ k2 hu0,.str_tuple _ _ k2 hu0⟩
  | lst _=>obtain⟨_,rfl,_,k2⟩:=b;exact⟨.str_list _ _ k2 hu0,.str_list _ _ k2 hu0,.str_list _ _ k2 hu0⟩
  | _=>cases hf
 | tup _=>
  obtain⟨_,rfl,_,k1⟩:=a;cases d' with
  | non=>obtain rfl:=b;exact⟨.tuple_none k1 hu0,.tuple_none k1 hu0,.tuple_none k1 hu0⟩
  | bl _=>obtain rfl:=b;exact⟨.tuple_bool _ k1 hu0,.tuple_bool _ k1 hu0,.tuple_bool _ k1 hu0⟩
  | int _=>obtain⟨_,rfl⟩:=b;exact⟨.tuple_int _ _ k1 hu0,.tuple_int _ _ k1 hu0,.tuple_int _ _ k1 hu0⟩
  | str _=>obtain⟨_,rfl⟩:=b;exact⟨.tuple_str _ _ k1 hu0,.tuple_str _ _ k1 hu0,.tuple_str _ _ k1 hu0⟩
  | lst _=>obtain⟨_,rfl,_,k2⟩:=b;exact⟨.tuple_list k1 k2 hu0,.tuple_list k1 k2 hu0,.tuple_list k1 k2 hu0⟩
  | _=>cases hf
 | lst _=>
  obtain⟨_,rfl,_,k1⟩:=a;cases d' with
  | non=>obtain rfl:=b;exact⟨.list_none k1 hu0,.list_none k1 hu0,.list_none k1 hu0⟩
  | bl _=>obtain rfl:=b;exact⟨.list_bool _ k1 hu0,.list_bool _ k1 hu0,.list_bool _ k1 hu0⟩
  | int _=>obtain⟨_,rfl⟩:=b;exact⟨.list_int _ _ k1 hu0,.list_int _ _ k1 hu0,.list_int _ _ k1 hu0⟩
  | str _=>obtain⟨_,rfl⟩:=b;exact⟨.list_str _ _ k1 hu0,.list_str _ _ k1 hu0,.list_str _ _ k1 hu0⟩
  | tup _=>obtain⟨_,rfl,_,k2⟩:=b;exact⟨.list_tuple k1 k2 hu0,.list_tuple k1 k2 hu0,.list_tuple k1 k2 hu0⟩
  | _=>cases hf
 | _=>cases hf
theorem Et(I:Inv X pins σ H s)(sF:Same F H):∀(n:Nat) (A:Around) (d d' :D) (x y:V) (v u:Value),A.units+n+1<cLine ->mz n d d' ->Rep X.K F d x ->Rep X.K F d' y ->RelV x v ->RelV y u ->Xe A s v u (eF d d'):=by
 intro n;induction n with
 | zero=>
  intro A d d' x y v u hu hc r r' rv ru;rcases Jv hc with h | ⟨_,_,_,h,_⟩ | ⟨_,_,_,h,_⟩
  ·exact Xf (by omega) h (kn I sF r rv) (kn I sF r' ru)
  ·cases h
  ·cases h
 | succ n ih=>
  intro A d d' x y v u hu hc0 r r' rv ru;have hu0:A.units<cLine:=by omega
  rcases Jv hc0 with h | ⟨_,xs,ys,h,rfl,rfl,hc⟩ | ⟨_,xs,ys,h,rfl,rfl,hc⟩
  ·exact Xf hu0 h (kn I sF r rv) (kn I sF r' ru)
  ·cases h;simp only [Rep] at r r';obtain⟨l1,vs,rfl,h1,q1⟩:=r;obtain⟨l2,us,rfl,h2,q2⟩:=r';cases rv;cases ru;obtain⟨is1,p1,k1,_⟩:=I.tuple (j4 sF h1);obtain⟨is2,p2,k2,_⟩:=I.tuple (j4 sF h2);have el1:is1.length=xs.length:=by rw[<- p1.length,fY q1]
   have el2:is2.length=ys.length:=by rw[<- p2.length,fY q2]
   have at_:∀j (g1:j<is1.toArray.size) (g2:j<is2.toArray.size),SeqAt.EqAt A.in1 s is1.toArray[j] is2.toArray[j] ((fun j=>match xs[j]?,ys[j]? with | some a,some b=>eF a b | _,_=>false) j):=by
    intro j g1 g2;have O8 :j<xs.length:=by simpa [el1] using g1
    have O9 :j<ys.length:=by simpa [el2] using g2
    have e1:xs[j]?=some xs[j]:=by simp [O8]
    have e2:ys[j]?=some ys[j]:=by simp [O9]
    obtain⟨w1,f1,m1⟩:=nP q1 e1;obtain⟨w2,f2,m2⟩:=nP q2 e2;obtain⟨z1,c1,b1⟩:=p1.get f1;obtain⟨z2,c2,b2⟩:=p2.get f2;have y1:is1.toArray[j]=z1:=by simpa [List.getElem?_eq_some_iff] using (zW.mp c1).2
    have y2:is2.toArray[j]=z2:=by simpa [List.getElem?_eq_some_iff] using (zW.mp c2).2
    simp only [e1,e2];rw[y1,y2];exact(ih A.in1 _ _ w1 w2 z1 z2 (by show A.units+1+n+1<cLine;omega) (hc j _ _ e1 e2) m1 m2 b1 b2).eq
   unfold eF;have same:l1=l2 ->cX xs ys=true:=fun e=>by
    have z:=Xd I sF (n+1) (.tup xs) (.tup ys) (.ref l1) (by simp only [mz];exact hc) (by simp only [Rep];exact⟨l1,vs,rfl,h1,q1⟩) (by simp only [Rep];exact⟨l2,us,by rw[e],h2,q2⟩)
    unfold eF at z;exact z
   have ev:((List.range (min is1.toArray.size is2.toArray.size)).all (fun j=>match xs[j]?,ys[j]? with | some a,some b=>eF a b | _,_=>false)&&is1.toArray.size==is2.toArray.size)=cX xs ys:=by
    have s1:is1.toArray.size=xs.length:=by simp [el1]
    have s2:is2.toArray.size=ys.length:=by simp [el2]
    rw[s1,s2];by_cases hl:xs.length=ys.length
    ·rw[zth _ hl];exact O6 hl _ fun i a b z1 z2=>by simp only [z1,z2]
    ·rw[O7 hl,beq_false_of_ne hl,Bool.and_false]
   have rc:=SeqAt.RcAt.tuples k1 k2 hu0 at_;have rn:=SeqAt.RcNeAt.tuples k1 k2 hu0 at_;rw[ev] at rc rn;refine⟨?_,rc,rn⟩;by_cases e:l1=l2
   ·rw[same e];subst e;exact SeqAt.EqAt.same _
   ·exact SeqAt.EqAt.of_refs e rc
  ·cases h;simp only [Rep] at r r';obtain⟨l1,vs,rfl,h1,q1⟩:=r;obtain⟨l2,us,rfl,h2,q2⟩:=r';cases rv;cases ru;obtain⟨is1,p1,k1',_⟩:=I.list (sF.seq h1);obtain⟨is2,p2,k2',_⟩:=I.list (sF.seq h2);have k1:=k1'.isList;have k2:=k2'.isList;have el1:is1.length=xs.length:=by rw[<- p1.length,fY q1]
   have el2:is2.length=ys.length:=by rw[<- p2.length,fY q2]
   have at_:∀j (g1:j<is1.toArray.size) (g2:j<is2.toArray.size),SeqAt.EqAt A.in1 s is1.toArray[j] is2.toArray[j] ((fun j=>match xs[j]?,ys[j]? with | some a,some b=>eF a b | _,_=>false) j):=by
    intro j g1 g2;have O8 :j<xs.length:=by simpa [el1] using g1
    have O9 :j<ys.length:=by simpa [el2] using g2
    have e1:xs[j]?=some xs[j]:=by simp [O8]
    have e2:ys[j]?=some ys[j]:=by simp [O9]
    obtain⟨w1,f1,m1⟩:=nP q1 e1;obtain⟨w2,f2,m2⟩:=nP q2 e2;obtain⟨z1,c1,b1⟩:=p1.get f1;obtain⟨z2,c2,b2⟩:=p2.get f2;have y1:is1.toArray[j]=z1:=by simpa [List.getElem?_eq_some_iff] using (zW.mp c1).2
    have y2:is2.toArray[j]=z2:=by simpa [List.getElem?_eq_some_iff] using (zW.mp c2).2
    simp only [e1,e2];rw[y1,y2];exact(ih A.in1 _ _ w1 w2 z1 z2 (by show A.units+1+n+1<cLine;omega) (hc j _ _ e1 e2) m1 m2 b1 b2).eq
   unfold eF;have same:l1=l2 ->cX xs ys=true:=fun e=>by
    have z:=Xd I sF (n+1) (.lst xs) (.lst ys) (.ref l1) (by simp only [mz];exact hc) (by simp only [Rep];exact⟨l1,vs,rfl,h1,q1⟩) (by simp only [Rep];exact⟨l2,us,by rw[e],h2,q2⟩)
    unfold eF at z;exact z
   have rcn:SeqAt.RcAt A s (.ref l1) (.ref l2) (cX xs ys)/\SeqAt.RcNeAt A s (.ref l1) (.ref l2) (!cX xs ys):=by
    by_cases hl:xs.length=ys.length
    ·have ev:(List.range is1.toArray.size).all (fun j=>match xs[j]?,ys[j]? with | some a,some b=>eF a b | _,_=>false)=cX xs ys:=by
      have s1:is1.toArray.size=xs.length:=by simp [el1]
      rw[s1];exact O6 hl _ fun i a b z1 z2=>by simp only [z1,z2]
     have hz:is1.toArray.size=is2.toArray.size:=by simp [el1,el2,hl]
     have rc:=SeqAt.RcAt.lists k1 k2 hz hu0 at_;have rn:=SeqAt.RcNeAt.lists k1 k2 hz hu0 at_;rw[ev] at rc rn;exact⟨rc,rn⟩
    ·have hz:(is1.toArray.size !=is2.toArray.size)=true:=by simp [el1,el2,hl]
     rw[O7 hl];exact⟨SeqAt.RcAt.lists_lengths k1 k2 hz hu0,SeqAt.RcNeAt.lists_lengths k1 k2 hz hu0⟩
   obtain⟨rc,rn⟩:=rcn;refine⟨?_,rc,rn⟩;by_cases e:l1=l2
   ·rw[same e];subst e;exact SeqAt.EqAt.same _
   ·exact SeqAt.EqAt.of_refs e rc
def nT:D ->D ->(D ->Prop) ->Prop:=fun x y P=>mz 20 x y/\P (.bl (eF x y))
def Eu:D ->D ->(D ->Prop) ->Prop:=fun x y P=>mz 20 x y/\P (.bl (!eF x y))
theorem iG(hu:X.A.units+21<cLine):gU X (compareOp .Eq) (nG X.K nT):=by
 rintro pins s σ H x y u w Q I rx ry ⟨F,d1,d2,P,sF,r1,r2,h,k⟩;exact(Et I sF 20 X.A d1 d2 x y u w hu h.1 r1 r2 rx ry).rc _ _ _ _ ⟨.bl _,H,I,rfl,k _ _ F H (Gr.refl sF) (by unfold Rep;rfl) h.2⟩
theorem yr(hu:X.A.units+21<cLine):gU X (compareOp .NotEq) (nG X.K Eu):=by
 rintro pins s σ H x y u w Q I rx ry ⟨F,d1,d2,P,sF,r1,r2,h,k⟩;exact(Et I sF 20 X.A d1 d2 x y u w hu h.1 r1 r2 rx ry).ne _ _ _ _ ⟨.bl _,H,I,rfl,k _ _ F H (Gr.refl sF) (by unfold Rep;rfl) h.2⟩
end
def mW(K:W.Frag)(C D:Addr):Bool:=match K.lookup C with
 | some ⟨_,_,.cls cd,_⟩=>cd.mro.contains (.ref D)
 | _=>false
section
variable{M:Model}{A:Around}{E:bH}{h:Heap}{g:Array GenState}{d:Drawn}{t:Nat}{os:OsState}
 {nm q nm' q' :Str} {C N C' N' :Addr} {bs bm bs' bm' :List Value} {hdct Xg :Bool} {sn sn' :List Str} {sub sub' :List Value} {ab ab' :Bool} {col col' :Option Bool} {dd Dz :Option Addr} {k0 k1 k2 k3 k5 j0 j1 j2 j3 j5:Option Value} {newId newId' :String}
end
abbrev _root_.L2.Cx.hand(X:Cx)(a:Addr):Cx:={X with A:=X.A.mark (some (.ref a)),calm:=false}
section
variable{X:Cx}{pins:bA}{σ:St}{H:Hp}{s:Shared}{a:Addr}
end
def j7:XW:=fun _ _=>False
section
variable{X:Cx}{pins:bA}{σ:St}{H:Hp}{s:Shared}
theorem Av:Ctx (X.wsh ⟨fun _ _=>False,pn⟩) F0 H0 j7:=
 ⟨fun _ _ _ _ _ _ _ _ _ _ h=>by obtain⟨_,_,_,_,_,_,_,_,_,_,_,_,_,_,_,_,h,_⟩:=h;exact h.elim,PassesOwn.never⟩
end
def Pa(K:W.Frag)(Cd:Addr)(tb th:au):au:=fun D Γ _=>tb D Γ fun Γ1 Cv=>∃C,Cv= .ref C/\rO K C/\mW K C Cd=true/\th D Γ1 j7
def Ew(K:W.Frag)(Cd:Addr)(i:Nat)(tb th:au):au:=fun D Γ _=>tb D Γ fun Γ1 Cv=>∃C,Cv= .ref C/\rO K C/\mW K C Cd=true/\
 th {nx:=fun Γ' =>D.nx (Γ'.set i .no),rt:=D.rt,bk:=fun Γ' =>D.bk (Γ'.set i .no),ct:=fun Γ' =>D.ct (Γ'.set i .no)} (Γ1.set i (.pu (.exc C))) j7
section
variable{X:Cx}{F0 H0:Hp}{pos np hp:Pos}{x n:Str}{Cd:Addr}{body suite:List Stmt}{b₀:Stmt}{tb th:au}
end
def cU(g:D ->(D ->Prop) ->Prop)(ta:aG):aG:=fun Γ P E=>ta Γ (fun d Γ1=>g d fun d' =>P d' Γ1) E
def rY:D ->(D ->Prop) ->Prop:=fun x P=>match x with | .int i=>P (.int (-i)) | _=>False
def mX(K:W.Frag)(g:List D ->(D ->Prop) ->Prop):List V ->Hp ->VK ->Prop:=fun vs H Q=>∃F ds P,Same F H/\ak K F ds vs/\g ds P/\∀d z F' H',Gr F H F' H' ->Rep K F' d z ->P d ->Q z H'
def j8(g:List D ->(D ->Prop) ->Prop)(t:aZ):aG:=fun Γ P E=>t Γ (fun ds Γ1=>g ds fun d=>P d Γ1) E
def eG:D ->D ->(D ->Prop) ->Prop:=fun x y P=>match x,y with
 | .lst xs,.int i=>∃d,jE xs i=some d/\P d
 | .tup xs,.int i=>∃d,jE xs i=some d/\P d
 | .str z,.int i=>∃c,z.length<=sizeLine/\jE z.cps.toList i=some c/\P (.str ⟨#[c]⟩)
 | _,_=>False
theorem Xh{K:W.Frag}{F:Hp}{ds:List D}{vs:List V}{i:Int}{d:D}(r:ak K F ds vs)(h:jE ds i=some d):∃v,jE vs i=some v/\Rep K F d v:=by
 unfold jE at h⊢;rw[<- fY r];cases q:qC ds.length i with
 | none=>rw[q] at h;cases h
 | some j=>
  rw[q] at h;exact nP r h
section
variable{X:Cx}{F0 H0:Hp}{a b e:Expr}{es:List Expr}{pos p:Pos}{ta tb te:aG}{t:aZ}{x:Str}
theorem Pb(ha:QE X F0 H0 a ta):QE X F0 H0 (.UnaryOp .USub a pos) (cU rY ta):=fun z E cx=>
 jg (z5f z38 (ha z E cx)) fun σ H Q hq1=>by obtain⟨F,Γ,P,R,h,k⟩:=hq1;exact⟨F,Γ,_,R,h,fun d Γ1 F1 H1 v R1 s1 r q=>by
  cases d with
  | int i=>
   unfold Rep at r;exact⟨i,r,k _ _ _ _ _ R1 s1 (by unfold Rep;rfl) q⟩
  | _=>exact False.elim q⟩
theorem Xi{K:W.Frag}{g:List D ->(D ->Prop) ->Prop}{E:XW}{σ:St}{H:Hp}{Q:VK}(h:xX K F0 H0 (j8 g t) E σ H Q):Ds (mX K g) (Ef K F0 H0 t E) σ H Q:=by
 obtain⟨F,Γ,P,R,h,k⟩:=h;exact⟨F,Γ,_,R,h,fun ds Γ1 F1 H1 vs R1 s1 r1 h1=>⟨F1,ds,_,R1.g,r1,h1,fun d z F' H' gr rz hp=>k d Γ1 F' H' z (R1.grow gr) (s1.trans gr.f) rz hp⟩⟩
theorem oV{id:String}{g:List D ->(D ->Prop) ->Prop}(hc:∀z,cg (X.wsh z) (.builtin id) (mX X.K g))(hg:Gl X x)(hm:X.mg x=none)(hv:bootBuiltins x=some (.builtin id))(ha:QA X F0 H0 (e::es) t)(hn:x≠ "__name__" :=by decide)(hdb:(x==("__debug__" :Str))=false:=by decide)
  (he:starEach (e::es) X.env=(false,eval e X.env)::starEach es X.env:=by rfl) (hpl:(backTo pos (starEach es X.env)).any (·.1)=false:=by rfl):QE X F0 H0 (.Call (.Name x p) (e::es) [] pos) (j8 g t):=fun z E cx=>
 jg (M9 (X:=X.wsh z) (hc z) hg hm hv (ha z E cx) hn hdb he hpl) fun _ _ _ h=>Xi h
theorem fG(ha:QE X F0 H0 a ta)(hb:QE X F0 H0 b tb)(hs:Wg b):QE X F0 H0 (.Subscript a b pos) (cB eG ta tb):=fun z E cx=>
 jg (z54 (X:=X.wsh z) (r:=nG X.K eG) (by
  rintro value slice pins s σ H x y v u Q I rx ry ⟨F,d1,d2,P,sF,r1,r2,h,k⟩ hs;unfold eG at h;split at h
  ·unfold Rep at r1 r2;obtain⟨p,vs,rfl,hq,rs⟩:=r1;subst r2;obtain⟨d,e,hp⟩:=h;obtain⟨w,ew,jD⟩:=Xh rs e;exact z04 value slice pins s σ H _ _ v u Q I rx ry ⟨p,vs,_,w,rfl,rfl,sF.seq hq,ew,k _ _ F H (Gr.refl sF) jD hp⟩ hs
  ·unfold Rep at r1 r2;obtain⟨p,vs,rfl,hq,rs⟩:=r1;subst r2;obtain⟨d,e,hp⟩:=h;obtain⟨w,ew,jD⟩:=Xh rs e;exact z3i value slice pins s σ H _ _ v u Q I rx ry ⟨p,vs,_,w,rfl,rfl,j4 sF hq,ew,k _ _ F H (Gr.refl sF) jD hp⟩ hs
  ·unfold Rep at r1 r2;subst r1 r2;obtain⟨c,hz,e,hp⟩:=h;exact z21 value slice pins s σ H _ _ v u Q I rx ry ⟨_,_,c,rfl,rfl,hz,e,k _ _ F H (Gr.refl sF) (by unfold Rep;rfl) hp⟩ hs
  ·exact h.elim) (ha z E cx) (hb z E cx) hs) fun _ _ _ h=>Jp h
end
def Aw:List D ->(D ->Prop) ->Prop:=fun ds P=>match ds with | [.int i]=>P (.int (if i<0 then -i else i)) | _=>False
def rZ:List D ->(D ->Prop) ->Prop:=fun ds P=>match ds with | [.lst xs]=>P (.int xs.length) | [.tup xs]=>P (.int xs.length) | [.str z]=>z.length<=sizeLine/\P (.int z.length) | _=>False
def z5z:List D ->(D ->Prop) ->Prop:=fun ds P=>match ds with | [.int i,.int j]=>P (.int (if j>i then j else i)) | _=>False
def z5d:List D ->(D ->Prop) ->Prop:=fun ds P=>match ds with | [.int i,.int j]=>P (.int (if j<i then j else i)) | _=>False
section
variable{X:Cx}
theorem Pg:cg X (.builtin "abs") (mX X.K Aw):=by
 rintro pins s σ H xs us Q I r ⟨F,ds,P,sF,rs,h,k⟩;unfold Aw at h;split at h
 ·unfold ak ak Rep at rs;obtain⟨v,_,rfl,rfl,rfl⟩:=rs;exact zwf pins s σ H _ us Q I r ⟨_,rfl,k _ _ F H (Gr.refl sF) (by unfold Rep;rfl) h⟩
 ·exact h.elim
theorem vY:cg X (.builtin "len") (mX X.K rZ):=by
 rintro pins s σ H xs us Q I r ⟨F,ds,P,sF,rs,h,k⟩;unfold rZ at h;split at h
 ·unfold ak ak Rep at rs;obtain⟨v,_,rfl,⟨p,vs,rfl,hq,rs⟩,rfl⟩:=rs;rw[fY rs] at h;exact Wj pins s σ H _ us Q I r ⟨p,vs,rfl,.inl (sF.seq hq),k _ _ F H (Gr.refl sF) (by unfold Rep;rfl) h⟩
 ·unfold ak ak Rep at rs;obtain⟨v,_,rfl,⟨p,vs,rfl,hq,rs⟩,rfl⟩:=rs;rw[fY rs] at h;exact Wj pins s σ H _ us Q I r ⟨p,vs,rfl,.inr (j4 sF hq),k _ _ F H (Gr.refl sF) (by unfold Rep;rfl) h⟩
 ·unfold ak ak Rep at rs;obtain⟨v,_,rfl,rfl,rfl⟩:=rs;exact zmb pins s σ H _ us Q I r ⟨_,rfl,h.1,k _ _ F H (Gr.refl sF) (by unfold Rep;rfl) h.2⟩
 ·exact h.elim
end
def tyD:D ->Option String
 | .non=>some "NoneType" | .bl _=>some "bool" | .int _=>some "int" | .str _=>some "str" | .tup _=>some "tuple" | .lst _=>some "list" | .exc _=>none | .ptr _=>none | .obj _ _ _=>none | .dic _ _=>none | .dG _ _=>none | .nO _ _=>some "dict"
def Ph(d:D)(T:String):Option Bool:=(tyD d).bind fun S=>W.kitOne [] (.type S) (.type T)
def Pj(T:String)(ta:aG):aG:=fun Γ P E=>ta Γ (fun d Γ1=>match Ph d T with | some b=>P (.bl b) Γ1 | none=>False) E
section
variable{X:Cx}{pins:bA}{σ:St}{F H:Hp}{s:Shared}
end
section
variable{X:Cx}{F0 H0:Hp}{a:Expr}{pos p pt:Pos}{ta:aG}{x:Str}{T:String}
end
def mY(C:Addr)(t:aZ):au:=fun _ Γ E=>t Γ (fun ds Γ1=>ds.length<=sizeLine/\E Γ1 (.ref C)) E
section
variable{X:Cx}{F0 H0:Hp}{e:Expr}{es:List Expr}{pos np cpos:Pos}{t:aZ}{x:Str}{C:Addr}
theorem Xj(hh:X.calm=true)(hg:Gl X x)(hm:X.mg x=some (.ref C))(hC:nQ X.K C)(ha:QA X F0 H0 (e::es) t)
  (hd:(x==("__debug__" :Str))=false:=by decide) (he:starEach (e::es) X.env=(false,eval e X.env)::starEach es X.env:=by rfl) (hpl:(backTo cpos (starEach es X.env)).any (·.1)=false:=by rfl):
  QS X F0 H0 (.Raise (some (.Call (.Name x np) (e::es) [] cpos)) none pos) (mY C t):=by
 rintro z E cx pins s σ H D I ⟨F,Γ,D2,R,h,k⟩;refine zxv (X:=X.wsh z) (E:=fun C' dx H1=>∃F1 Γ1,SR X.K F0 H0 F1 H1 σ Γ1/\E Γ1 (.ref C)) hg hm hC (ha z E cx) hh I ⟨F,Γ,_,R,h,fun ds Γ1 F1 H1 vs R1 s1 r1 h1=>⟨by rw[<- fY r1];exact h1.1,F1,Γ1,R1,h1.2⟩⟩ (fun H1 s1 e s' I1 hx=> ?_) hd he hpl
 obtain⟨a,C',H',B,h1,h2,h3,h4,h5,h6,h7,h8,rfl,h9,rfl,F1,Γ1,R1,hE⟩:=hx;exact cx.px pins σ Γ1 F1 _ s1 e s' I1 R1 ⟨a,_,_,B,h1,h2,h3,h4,h5,h6,h7,h8,hE,rfl,.refl _⟩
end
structure cR (P:Program) (w:World) (K:W.Frag) (mg:Str ->Option Value) (base:Heap) (x:Str) (k:Nat) (ps:List Str) (sp:cD):Prop where
 ex:∃f fd,dX P w K mg base (gK P w) k f fd ps (jR K sp)/\mg x=some (.ref f)/\W.keepIn K (.ref f)=true/\Binds K fd ps []
section
variable{X:Cx}{F0 H0:Hp}{e:Expr}{es:List Expr}{pos p:Pos}{x:Str}{ps:List Str}{k:Nat}{sp:cD}{t:aZ}
theorem dR(G:cR X.prog X.w X.K X.mg X.base x k ps sp)(hr:eN k X.A)(hg:Gl X x)(ha:QA X F0 H0 (e::es) t)(hdb:(x==("__debug__" :Str))=false:=by decide)(he:starEach (e::es) X.env=(false,eval e X.env)::starEach es X.env:=by rfl)(hpl:(backTo pos (starEach es X.env)).any (·.1)=false:=by rfl):
  QE X F0 H0 (.Call (.Name x p) (e::es) [] pos) (aF sp t):=by
 obtain⟨f,fd,h1,h2,h3,h4⟩:=G.ex;exact z2b h1 hr hg h2 h3 h4 ha hdb he hpl
end
section
variable{X:Cx}{pins:bA}{σ:St}{H:Hp}{s:Shared}{a:Addr}{o:HO}
end
section
variable{X:Cx}{F0 H0:Hp}{pos np hp:Pos}{x n:Str}{Cd:Addr}{body suite:List Stmt}{b₀:Stmt}{tb th:au}{i:Nat}
end
def Jw:cD:=fun ds P _=>∃ns:List Int,ds= [.lst (ns.map .int)]/\ns.length<=63/\P (.bl true)
theorem Xk{K:W.Frag}{F:Hp}:∀ns:List Int,ak K F (ns.map .int) (ns.map V.int)
 | []=>by unfold ak;rfl
 | n::ns=>oU (by unfold Rep;rfl) (Xk ns)
theorem zsy{K:W.Frag}{H:Hp}{a:Addr}{ns:List Int}(hl:ns.length<=63)(hS:fL K H a (ns.map V.int)):jR K Jw [.ref a] H (fun v _=>v= .bl true) fun _ _ _=>False:=
 ⟨H,[.lst (ns.map .int)],fun d=>d= .bl true,fun _=>False,.refl _,DQ (by unfold Rep;exact⟨a,_,rfl,hS,Xk ns⟩),⟨ns,rfl,hl,rfl⟩,fun d v F' H' gr r h=>by subst h;unfold Rep at r;exact r,fun _ _ h=>h.elim⟩
theorem zxg(h:gK P w [] H s (fun _ _ _=>False) e s'):False:=by
 obtain⟨_,_,_,_,_,_,_,_,_,_,_,_,h⟩:=h;exact h
structure Cls where
 Ax:Addr:=0
 bK:Addr:=0
 Pk:Addr:=0
 Pn:Addr:=0
 Xl:Addr:=0
 Missing:Addr:=0
 dh:Addr:=0
 Few:Addr:=0
 Apart:Addr:=0
 Jx:Addr:=0
 Pr:Addr:=0
 Open:Addr:=0
 Pu:Addr:=0
 Ay:Addr:=0
 Xm:Addr:=0
 Scale:Addr:=0
 aaH:Addr:=0
 Jy:Addr:=0
 aaI:Addr:=0
structure vf (K:W.Frag) (C:Addr):Prop where
 ga:W.findIn K (.ref C) "__getattribute__" =some (some (.builtin "BaseException.__getattribute__"))
 gn:W.findIn K (.ref C) "__getattr__" =some none
 cl:W.findIn K (.ref C) "__class__" =some (some (.builtin "object.__class__"))
 ob:W.mroIn K C (.type "object")=some true
 be:W.mroIn K C (.type "BaseException")=some true
def Px(K:W.Frag)(C:Addr)(ta:aG):aG:=fun Γ P E=>ta Γ (fun d Γ1=>match d with | .exc C0=>(rO K C0/\vf K C0)/\P (.bl (mW K C0 C)) Γ1 | _=>False) E
section
open PySem.W PySem.Builtin PySem.Builtin.ObjectAttr PySem.Builtin.Getset_descriptor
variable{prog:Program}{w:World}{A:Around}{E:bH}{K:W.Frag}{h:Heap}{g:Array GenState}{d:Drawn}{t:Nat}{os:OsState}{a C:Addr}{o:Obj}
def aaJ(K:W.Frag)(C:Addr):Bool:=match K.lookup C with
 | some ⟨.type "type",_,.cls cd,_⟩=>(match cd.mro with | .ref C' ::_=>C' ==C | _=>false)
 | _=>false
end
section
variable{X:Cx}{F0 H0:Hp}{a:Expr}{pos p pt:Pos}{ta:aG}{x:Str}{C:Addr}
end
theorem Py:∀(names:List (Str×NameKind)) (n:Nat) (acc:List (Str×Addr)),(∀p∈names,p.2= .cell ->p.1≠x) ->(cellsFrom n names acc).lookup x=acc.lookup x
 | [],_,_,_=>rfl
 | (y,k)::r,n,acc,h=>by
  unfold cellsFrom;have hr:∀p∈r,p.2= .cell ->p.1≠x:=fun p hp=>h p (zX _ hp);split
  ·rename_i hk;have hy:y≠x:=h (y,k) zY (by simpa using hk)
   rw[Py r _ _ hr,List.lookup_cons];have:(x==y)=false:=by rw[beq_eq_false_iff_ne];exact Ne.symm hy
   rw[this]
  ·exact Py r _ _ hr
theorem Pz:∀(names:List (Str×NameKind)) (h:Heap) (acc:List (Str×Addr)),(x,c)∈cellsFrom h.objs.size names acc ->(x,c)∈acc\/ (h.objs.size<=c/\ (pushCells h names).IsCell c none/\ (x,NameKind.cell)∈names)
 | [],_,_,m=> .inl m
 | (y,k)::r,h,acc,m=>by
  unfold cellsFrom at m;unfold pushCells;split at m
  ·rename_i hk;rw[if_pos hk];have sz:(h.push {cls:= .type "cell",data:= .cell none}).objs.size=h.objs.size+1:=Heap.size_push ..;rw[<- sz] at m;rcases Pz r _ _ m with z | ⟨z1,z2,z3⟩
   ·rcases zV.mp z with e | z
    ·cases e;have e2:k= .cell:=by simpa using hk
     subst e2;refine .inr ⟨zO _,?_,zY⟩;exact⟨_,pushCells_keeps r _ _ _ (z9 _ rfl),rfl⟩
    ·exact .inl z
   ·exact .inr ⟨by rw[sz] at z1;omega,z2,zX _ z3⟩
  ·rename_i hk;rw[if_neg hk];rcases Pz r h acc m with z | ⟨z1,z2,z3⟩
   ·exact .inl z
   ·exact .inr ⟨z1,z2,zX _ z3⟩
theorem PB:∀(names:List (Str×NameKind)) (n:Nat) (acc:List (Str×Addr)),(acc.Pairwise fun x y=>x.2≠y.2) ->(∀p∈acc,p.2<n) ->(cellsFrom n names acc).Pairwise fun x y=>x.2≠y.2
 | [],_,_,h,_=>h
 | (y,k)::r,n,acc,h,hl=>by
  unfold cellsFrom;split
  ·refine PB r _ _ (List.pairwise_cons.mpr ⟨fun p hp e=> ?_,h⟩) fun p hp=> ?_
   ·have e' :n=p.2:=e;exact yX _ (Nat.lt_of_lt_of_eq (hl p hp) e')
   ·rcases zV.mp hp with rfl | hp
    ·exact Nat.lt_succ_self _
    ·exact Nat.lt_succ_of_lt (hl p hp)
  ·exact PB r n acc h hl
def iU(env:Env):List (Str×NameKind) ->List (Str×Addr) ->List (Str×Addr)
 | [],cs=>cs
 | (n,k)::r,cs=>iU env r (if k== .free then(n,(env.cells.lookup n).getD 0)::cs else cs)
theorem z0t(h:∀p∈scope.names,p.2= .free ->∃c,env.cells.lookup p.1=some c):closureFor scope env=pure (iU env scope.names []):=by
 have key:∀(names:List (Str×NameKind)) (cs:List (Str×Addr)),(∀p∈names,p.2= .free ->∃c,env.cells.lookup p.1=some c) ->
   (forIn names cs fun(x:Str×NameKind) (r:List (Str×Addr))=>(if x.2== .free then do let a<- cellOf env x.1;pure (ForInStep.yield ((x.1,a)::r)) else pure (ForInStep.yield r):Sem _))=pure (iU env names cs):=by
  intro names;induction names with
  | nil=>intro cs _;rfl
  | cons p r ih=>
   intro cs hh;obtain⟨n,k⟩:=p;have hr:∀p∈r,p.2= .free ->∃c,env.cells.lookup p.1=some c:=fun p hp=>hh p (zX _ hp);rw[List.forIn_cons];unfold iU;by_cases hk:(k==NameKind.free)=true
   ·obtain⟨c,e⟩:=hh (n,k) zY (by simpa using hk)
    have e' :cellOf env n=pure c:=by unfold cellOf;rw[e]
    simp only [hk,if_true,e',pure_bind,e,Option.getD_some];exact ih _ hr
   ·have hk' :(k==NameKind.free)=false:=by simpa using hk
    simp only [hk',Bool.false_eq_true,if_false,pure_bind];exact ih _ hr
 unfold closureFor;have:=key scope.names [] h
 simpa using this
theorem PJ:∀(names:List (Str×NameKind)) (cs:List (Str×Addr)),(∀p∈names,p.2= .free ->∃c,env.cells.lookup p.1=some c) ->(x,c)∈iU env names cs ->(x,c)∈cs\/ ((x,NameKind.free)∈names/\env.cells.lookup x=some c)
 | [],_,_,m=> .inl m
 | (n,k)::r,cs,hh,m=>by
  unfold iU at m;have hr:∀p∈r,p.2= .free ->∃c,env.cells.lookup p.1=some c:=fun p hp=>hh p (zX _ hp);rcases PJ r _ hr m with z | ⟨z1,z2⟩
  ·split at z
   ·rename_i hk;rcases zV.mp z with e | z
    ·cases e;have e2:k= .free:=by simpa using hk
     subst e2;obtain⟨c,e⟩:=hh (_,.free) zY rfl;refine .inr ⟨zY,?_⟩;have e' :env.cells.lookup x=some c:=e;rw[e'];rfl
    ·exact .inl z
   ·exact .inl z
  ·exact .inr ⟨zX _ z1,z2⟩
theorem Jz(e:env.cells.lookup x=some c):∀(names:List (Str×NameKind)) (cs:List (Str×Addr)),((x,NameKind.free)∈names\/cs.lookup x=some c) ->(∀c',cs.lookup x=some c' ->c' =c) ->(iU env names cs).lookup x=some c
 | [],cs,h,_=>by
  rcases h with h | h
  ·cases h
  ·exact h
 | (n,k)::r,cs,h,hu=>by
  unfold iU;by_cases hk:(k==NameKind.free)=true
  ·rw[if_pos hk];by_cases hn:x=n
   ·subst hn;refine Jz e r _ (.inr ?_) fun c' q=> ?_
    ·rw[List.lookup_cons];simp [e]
    ·rw[List.lookup_cons] at q;simp [e] at q;exact q.symm
   ·have hb:(x==n)=false:=by rw[beq_eq_false_iff_ne];exact hn
    refine Jz e r _ ?_ fun c' q=> ?_
    ·rcases h with h | h
     ·rcases zV.mp h with z | z
      ·cases z;exact absurd rfl hn
      ·exact .inl z
     ·refine .inr ?_;rw[List.lookup_cons,hb];exact h
    ·rw[List.lookup_cons,hb] at q;exact hu c' q
  ·rw[if_neg hk];refine Jz e r cs ?_ hu;rcases h with h | h
   ·rcases zV.mp h with z | z
    ·cases z;exact absurd rfl hk
    ·exact .inl z
   ·exact .inr h
theorem PL(inj:∀x y c,env.cells.lookup x=some c ->env.cells.lookup y=some c ->x=y):∀(names:List (Str×NameKind)) (cs:List (Str×Addr)),(names.map (·.1)).Nodup ->(∀p∈names,p.2= .free ->∃c,env.cells.lookup p.1=some c) ->
  (cs.Pairwise fun x y=>x.2≠y.2) ->(∀p∈cs,env.cells.lookup p.1=some p.2/\p.1∉names.map (·.1)) ->(iU env names cs).Pairwise fun x y=>x.2≠y.2
 | [],_,_,_,h,_=>h
 | (n,k)::r,cs,nd,hh,h,hc=>by
  unfold iU;rw[List.map_cons,List.nodup_cons] at nd;have hr:∀p∈r,p.2= .free ->∃c,env.cells.lookup p.1=some c:=fun p hp=>hh p (zX _ hp);have hc' :∀p∈cs,env.cells.lookup p.1=some p.2/\p.1∉r.map (·.1):=fun p hp=>⟨(hc p hp).1,fun z=>(hc p hp).2 (by rw[List.map_cons];exact zX _ z)⟩
  by_cases hk:(k==NameKind.free)=true
  ·rw[if_pos hk];obtain⟨c,e⟩:=hh (n,k) zY (by simpa using hk)
   have e' :env.cells.lookup n=some c:=e;rw[e'];refine PL inj r _ nd.2 hr (List.pairwise_cons.mpr ⟨fun p hp z=> ?_,h⟩) fun p hp=> ?_
   ·have z' :c=p.2:=z;have q:=(hc p hp).1;rw[<- z'] at q;have:=inj _ _ _ e' q;exact(hc p hp).2 (by rw[List.map_cons,<- this];exact zY)
   ·rcases zV.mp hp with rfl | hp
    ·exact⟨e',nd.1⟩
    ·exact hc' p hp
  ·rw[if_neg hk];exact PL inj r cs nd.2 hr h hc'
theorem PN{scope:Scope}{env:Env}{x:Str}:∀(names:List (Str×NameKind)) {k:NameKind},names.lookup x=some k ->(names.map fun(n,k)=>if (k==NameKind.free&&env.scope.kind== .function&&env.kindOf n==some .cell) then(n,NameKind.cell) else(n,k)).lookup x=some k\/
   (k= .free/\ (names.map fun(n,k)=>if (k==NameKind.free&&env.scope.kind== .function&&env.kindOf n==some .cell) then(n,NameKind.cell) else(n,k)).lookup x=some .cell)
 | [],_,h=>by simp at h
 | (n,k0)::r,k,h=>by
  have ih:= @PN scope env x r k;show List.lookup x ((if (k0==NameKind.free&&env.scope.kind== .function&&env.kindOf n==some .cell)=true then(n,NameKind.cell) else(n,k0))::_)=_\/ (_/\List.lookup x ((if (k0==NameKind.free&&env.scope.kind== .function&&env.kindOf n==some .cell)=true then(n,NameKind.cell) else(n,k0))::_)=_);cases hx:x==n with
  | true=>
   simp only [List.lookup_cons,hx] at h;cases h;by_cases hc:(k0==NameKind.free&&env.scope.kind== .function&&env.kindOf n==some .cell)=true
   ·rw[if_pos hc];simp only [Bool.and_eq_true] at hc;exact .inr ⟨by simpa using hc.1.1,by simp only [List.lookup_cons,hx]⟩
   ·rw[if_neg hc];exact .inl (by simp only [List.lookup_cons,hx])
  | false=>
   simp only [List.lookup_cons,hx] at h;by_cases hc:(k0==NameKind.free&&env.scope.kind== .function&&env.kindOf n==some .cell)=true
   ·rw[if_pos hc];simp only [List.lookup_cons,hx];exact ih h
   ·rw[if_neg hc];simp only [List.lookup_cons,hx];exact ih h
def fu(scope:Scope)(C:Addr)(env:Env):Env:=
 {scope:=relabel scope env,locals:=C,globals:=env.globals,cells:=cellsFrom (C+1) scope.names (iU env scope.names []),qual:=env.qual,func:=none,code:=env.code,frame:=env.frame,builtins:=env.builtins}
def blk(X:Cx)(scope:Scope)(N:List Str)(C:Addr)(s₀:Shared)(H₀:Hp)(fp:List Addr):Cx:=
 {X with env:=fu scope C X.env,N:=N,s₀:=s₀,H₀:=H₀,outer:=X.stack,stack:=X.stack,ex:=fp,fn:=fun x=>scope.names.lookup x==some .cell,pn:= [],xe:=fun _ _=>False}
def nJ(own:Nat)(caps:List Nat)(σ:St):St:=List.replicate own none++caps.map fun j=>(σ[j]?).join
structure eV (N:List Str) (sc:Scope) (own:List Str) (caps:List Nat) (env:Env) (N' :List Str):Prop where
 kind:sc.kind= .function
 nd:N'.Nodup
 snd:(sc.names.map (·.1)).Nodup
 free:∀p∈sc.names,p.2= .free ->env.kindOf p.1=some .cell\/env.kindOf p.1=some .free
 names:N' =own++caps.map fun j=>N.getD j ""
 caps:∀j∈caps,j<N.length/\sc.names.lookup (N.getD j "")=some .free
theorem zst
  (hQ:Q (newEnv scope s.heap.objs.size g (cellsFrom (s.heap.objs.size+1) scope.names cl) q none .none (some env) builtinsNs) {s with heap:=pushCells (s.heap.push {cls:= .type "dict",data:= .dict #[]}) scope.names}):
  wpAny M A (newFunctionEnv scope g cl [] q none .none (some env)) Q E s:=by
 simp only [newFunctionEnv,Option.isSome_some,if_true];refine z6 (wpAny_alloc ?_);refine z6 (wpAny_layCells _ (fun name kind cells=>by cases hkc:kind==NameKind.cell<;>simp [hkc]) _ _ _ _ ?_)
 rw[show({s with heap:=s.heap.push {cls:= .type "dict",data:= .dict #[]}}:Shared).heap.objs.size=s.heap.objs.size+1 from Heap.size_push ..];simp only [List.forIn_nil];exact z6 (z7 (z7 hQ))
section
variable{X:Cx}{pins:bA}{σ:St}{H:Hp}{s:Shared}{sc:Scope}{own:List Str}{caps:List Nat}{N' :List Str}{fp:List Addr}
theorem JB(I:Inv X pins σ H s)(S:eV X.N sc own caps X.env N'):∀p∈sc.names,p.2= .free ->∃c,X.env.cells.lookup p.1=some c:=fun p hp hk=>I.ok.has _ (S.free p hp hk)
theorem JC(I:Inv X pins σ H s)(S:eV X.N sc own caps X.env N')(e:(fu sc s.heap.objs.size X.env).cells.lookup x=some c):
  (X.env.cells.lookup x=some c/\c<s.heap.objs.size/\sc.names.lookup x≠some .cell)\/ (s.heap.objs.size+1<=c/\ (pushCells (s.heap.push {cls:= .type "dict",data:= .dict #[]}) sc.names).IsCell c none):=by
 have m:=mem_of_lookup e;have sz:(s.heap.push {cls:= .type "dict",data:= .dict #[]}).objs.size=s.heap.objs.size+1:=Heap.size_push ..;have m' :(x,c)∈cellsFrom (s.heap.push {cls:= .type "dict",data:= .dict #[]}).objs.size sc.names (iU X.env sc.names []):=by rw[sz];exact m
 rcases Pz sc.names _ _ m' with z | ⟨z1,z2,z3⟩
 ·rcases PJ sc.names [] (JB I S) z with z | ⟨z1,z2⟩
  ·cases z
  ·obtain⟨v,hc⟩:=I.cell x c z2;refine .inl ⟨z2,hc.lt,fun q=> ?_⟩;have q' :=mem_of_lookup q;have:=S.snd;rw[List.Nodup,List.pairwise_map] at this;have d:∀(l:List (Str×NameKind)),(l.Pairwise fun a b=>a.1≠b.1) ->(x,NameKind.free)∈l ->(x,NameKind.cell)∈l ->False:=by
    intro l;induction l with
    | nil=>intro _ h;cases h
    | cons a r ih=>
     intro hp h1 h2;obtain⟨p1,p2⟩:=List.pairwise_cons.mp hp;rcases zV.mp h1 with e1 | h1<;>rcases zV.mp h2 with e2 | h2
     ·rw[<- e1] at e2;cases e2
     ·exact p1 _ h2 (by rw[<- e1])
     ·exact p1 _ h1 (by rw[<- e2])
     ·exact ih p2 h1 h2
   exact d _ this z1 q'
 ·exact .inr ⟨by rw[sz] at z1;exact z1,z2⟩
theorem PX(I:Inv X pins σ H s)(S:eV X.N sc own caps X.env N')(hk:sc.names.lookup x=some .free)(e:X.env.cells.lookup x=some c):(fu sc s.heap.objs.size X.env).cells.lookup x=some c:=by
 show(cellsFrom _ sc.names (iU X.env sc.names [])).lookup x=some c;rw[Py]
 ·exact Jz e _ _ (.inl (mem_of_lookup hk)) fun c' q=>by cases q
 ·intro p hp hc z;have q:=mem_of_lookup hk;have:=S.snd;rw[List.Nodup,List.pairwise_map] at this;have d:∀(l:List (Str×NameKind)),(l.Pairwise fun a b=>a.1≠b.1) ->(x,NameKind.free)∈l ->p∈l ->False:=by
   intro l;induction l with
   | nil=>intro _ h;cases h
   | cons a r ih=>
    intro Qa h1 h2;obtain⟨p1,p2⟩:=List.pairwise_cons.mp Qa;rcases zV.mp h1 with e1 | h1<;>rcases zV.mp h2 with e2 | h2
    ·rw[<- e1] at e2;subst e2;cases hc
    ·exact p1 _ h2 (by rw[<- e1];exact z.symm)
    ·exact p1 _ h1 (by rw[<- e2];exact z)
    ·exact ih p2 h1 h2
  exact d _ this q hp
theorem Xn(I:Inv X pins σ H s)(S:eV X.N sc own caps X.env N')(Ey:∀x c v,X.env.cells.lookup x=some c ->s.heap.IsCell c v ->h'.IsCell c v)(i:Nat)(x:Str)(v:V)(h1:N'[i]?=some x)(h2:(nJ own.length caps σ)[i]?=some (some v)):
  ∃u,RelV v u/\Look (fu sc s.heap.objs.size X.env) h' m' x u:=by
 have h2' :(nJ own.length caps σ)[i]?=some (some v):=h2;have h1' :N'[i]?=some x:=h1;unfold nJ at h2';rw[S.names] at h1';by_cases hi:i<own.length
 ·rw[List.getElem?_append_left (by simpa using hi),List.getElem?_replicate] at h2'
  split at h2' <;>cases h2'
 ·rw[List.getElem?_append_right (by simpa using hi),List.getElem?_map,List.length_replicate] at h2'
  rw[List.getElem?_append_right (by omega),List.getElem?_map] at h1'
  cases hj:caps[i - own.length]? with
  | none=>rw[hj] at h1';cases h1'
  | some j=>
   rw[hj] at h1' h2';obtain⟨j1,j2⟩:=S.caps j (zA hj);have hx:X.N.getD j "" =x:=by simpa using h1'
   have hσ:σ[j]?=some (some v):=by
    have:(σ[j]?).join=some v:=by simpa using h2'
    cases q:σ[j]? with
    | none=>rw[q] at this;cases this
    | some o=>rw[q] at this;have:o=some v:=this;rw[this]
   rw[hx] at j2;have hN:X.N[j]?=some x:=by
    rw[List.getD_eq_getElem?_getD,List.getElem?_eq_getElem j1] at hx;rw[List.getElem?_eq_getElem j1]
    simpa using hx
   obtain⟨m,hn,hloc⟩:=I.loc;have kx:=S.free (x,.free) (mem_of_lookup j2) rfl;have vis:mU X.env.scope x:=by
    rcases kx with k | k
    ·exact .inr (.inl k)
    ·exact .inr (.inr k)
   obtain⟨u,ru,l⟩:=hloc j x v hN hσ vis;refine⟨u,ru,.inr ⟨?_,?_⟩⟩
   ·rcases PN (scope:=sc) (env:=X.env) sc.names j2 with h | ⟨_,h⟩
    ·exact .inr h
    ·exact .inl h
   ·rcases l with ⟨k,_⟩ | ⟨_,c,ec,hc⟩
    ·have k' :X.env.kindOf x=some .local:=k;have Xo :X.env.kindOf x=some .cell\/X.env.kindOf x=some .free:=kx;rw[k'] at Xo;rcases Xo with z | z<;>cases z
    ·exact⟨c,PX I S j2 ec,Ey x c _ ec hc⟩
theorem zvb(I:Inv X pins σ H s)(S:eV X.N sc own caps X.env N')(hf:∀b∈fp,gb X pins H b)(hl:∀b∈fp,b<s.heap.objs.size):
  Inv (blk X sc N' s.heap.objs.size s H fp) [] (nJ own.length caps σ) H {s with heap:=pushCells (s.heap.push {cls:= .type "dict",data:= .dict #[]}) sc.names}:=by
 have keep:∀b o,s.heap.get? b=some o ->(pushCells (s.heap.push {cls:= .type "dict",data:= .dict #[]}) sc.names).get? b=some o:=fun b o e=>pushCells_keeps _ _ b o (z8 _ e);have ok:=I.ok;have inj:∀x y c,(fu sc s.heap.objs.size X.env).cells.lookup x=some c ->(fu sc s.heap.objs.size X.env).cells.lookup y=some c ->x=y:=fun x y c e1 e2=>by
  refine name_of_addr (cs:=(fu sc s.heap.objs.size X.env).cells) ?_ (mem_of_lookup e1) (mem_of_lookup e2);refine PB _ _ _ (PL ok.inj _ _ S.snd (JB I S) List.Pairwise.nil (fun p hp=>by cases hp)) fun p hp=> ?_
  rcases PJ (x:=p.1) (c:=p.2) sc.names [] (JB I S) hp with z | ⟨_,z⟩
  ·cases z
  ·obtain⟨v,hc⟩:=I.cell _ _ z;exact Nat.lt_succ_of_lt hc.lt
 have frC:∀b,s.heap.objs.size<=b ->H b=none:=fun b hb=>I.hok.fresh hb;have Qc:(fu sc s.heap.objs.size X.env).scope.kind= .function:=S.kind;refine⟨⟨ok.mod,Qc,ok.glob,ok.blt,zO _,inj,fun x hx=> ?_,fun x c hfn e=> ?_,ok.hd,ok.frames,.inl rfl,fun b hb=>⟨zL (hl b hb),fun x c e z=> ?_⟩,I.bs,zP ok.Af I.sz,fun b o e hb=> ?_,fun b hb z=> ?_,I.stack,I.stkFree⟩,
  rfl,I.bare,Un.kept keep,⟨_,(Heap.Ns.new s.heap (.type "dict")).keeps (pushCells_keeps _ _),fun i x v h1 h2 h3=> ?_⟩,fun x c e=> ?_,frC _ (zO _),fun x c e=> ?_,fun p hp=>absurd (show p∈ ([]:bA) from hp) (by simp),I.hok.kept keep,?_⟩
 ·
  have hx' :(relabel sc X.env).names.lookup x=some .cell\/ (relabel sc X.env).names.lookup x=some .free:=hx;have:∃k,sc.names.lookup x=some k:=by
   have key:∀(l:List (Str×NameKind)) (k' :NameKind),(l.map fun(n,k)=>if (k==NameKind.free&&X.env.scope.kind== .function&&X.env.kindOf n==some .cell) then(n,NameKind.cell) else(n,k)).lookup x=some k' ->∃k,l.lookup x=some k:=by
    intro l;induction l with
    | nil=>intro k' h;simp at h
    | cons a r ih=>
     intro k' h;obtain⟨n,k0⟩:=a;cases hb:x==n with
     | true=>exact⟨k0,by simp [List.lookup_cons,hb]⟩
     | false=>
      have h2:List.lookup x ((if (k0==NameKind.free&&X.env.scope.kind== .function&&X.env.kindOf n==some .cell)=true then(n,NameKind.cell) else(n,k0))::(r.map _))=some k' :=h;obtain⟨k,hk⟩:=ih k' (by
       split at h2<;>(simp only [List.lookup_cons,hb] at h2;exact h2))
      exact⟨k,by simp only [List.lookup_cons,hb];exact hk⟩
   rcases hx' with h | h
   ·exact key _ _ h
   ·exact key _ _ h
  obtain⟨k,hk⟩:=this;rcases PN (scope:=sc) (env:=X.env) sc.names hk with h | ⟨h1,h2⟩
  ·have hkk:k= .cell\/k= .free:=by
    have h' :(relabel sc X.env).names.lookup x=some k:=h;rcases hx' with z | z<;>rw[z] at h' <;>cases h' <;>simp
   rcases hkk with rfl | rfl
   ·exact Option.isSome_iff_exists.mp (W.cellsFrom_some sc.names _ _ (.inl hk))
   ·obtain⟨c,e⟩:=ok.has x (S.free (x,.free) (mem_of_lookup hk) rfl);exact⟨c,PX I S hk e⟩
  ·subst h1;obtain⟨c,e⟩:=ok.has x (S.free (x,.free) (mem_of_lookup hk) rfl);exact⟨c,PX I S hk e⟩
 ·
  have Qd :sc.names.lookup x=some .cell:=by
   have:(sc.names.lookup x==some NameKind.cell)=true:=hfn
   simpa using this
  rcases JC I S e with ⟨_,_,z⟩ | ⟨z,_⟩
  ·exact absurd Qd z
  ·show s.heap.objs.size<=c;exact Nat.le_of_succ_le z
 ·rcases JC I S e with ⟨z1,_,_⟩ | ⟨z1,_⟩
  ·exact(hf b hb).2.2.2.2.1 x c z1 z
  ·have:=hl b hb;rw[<- z] at this;exact yX _ (zN this (Nat.le_of_succ_le z1))
 ·have q:=(hf b hb).2.2.2.1;rcases q with q | q
  ·exact ok.w6 b o e q
  ·have q2:b<X.base.objs.size:=zJ e;exact yX _ (zN q2 (zP ok.Af q))
 ·rcases zV.mp (I.stkSub b z) with z | z
  ·exact(hf b hb).2.1 z
  ·exact(hf b hb).2.2.1 z
 ·exact Xn I S (fun x c v _ hc=>hc.keeps keep) i x v h1 h2
 ·rcases JC I S e with ⟨z1,_,_⟩ | ⟨_,z⟩
  ·obtain⟨v,hc⟩:=I.cell x c z1;exact⟨v,hc.keeps keep⟩
  ·exact⟨_,z⟩
 ·rcases JC I S e with ⟨z1,_,_⟩ | ⟨z,_⟩
  ·exact I.freeC x c z1
  ·exact frC c (Nat.le_of_succ_le z)
 ·show(nJ own.length caps σ).length=N'.length;rw[S.names];unfold nJ;simp
theorem zvp(I:Inv X pins σ H s)(S:eV X.N sc own caps X.env N')(hf:∀b∈fp,gb X pins H b)(B:Inv (blk X sc N' s.heap.objs.size s H fp) pR σ5 H5 s5):
  Inv (blk X sc N' s.heap.objs.size s H fp) pR (nJ own.length caps σ) H5 s5:=by
 obtain⟨m,hn,_⟩:=B.loc;have kc:∀x c v,X.env.cells.lookup x=some c ->s.heap.IsCell c v ->s5.heap.IsCell c v:=fun x c v e ⟨o,ho,hd⟩=>by
  have nx:c∉fp:=fun z=>(hf c z).2.2.2.2.1 x c e rfl;by_cases hc:c∈frs X.stack
  ·obtain⟨sl,q⟩:=B.base.slot c o ho (I.freeC x c e) hc nx;exact⟨_,q,hd⟩
  ·exact⟨o,B.base.keep c o ho (I.freeC x c e) hc nx,hd⟩
 exact⟨B.ok,B.os,B.bare,B.base,⟨m,hn,fun i x v h1 h2 h3=>Xn I S kc i x v h1 h2⟩,B.cell,B.free,B.freeC,B.pin,B.hok,by show(nJ own.length caps σ).length=N'.length;rw[S.names];unfold nJ;simp⟩
end
abbrev Xp(ifs:List Expr)(env:Env):Sem Bool:=forIn ifs true fun c r=>if r=true then do let ok<- isTrue c env (eval c env);pure (ForInStep.yield ok) else pure (ForInStep.yield r)
section
variable{prog:Program}{w:World}{A:Around}{R:Result ->Shared ->Prop}{s:Shared}
theorem zu3(I:Nat ->Shared ->Prop)
  (turn:∀n s,I n s ->wpAny (model prog w) A (pyNext it) (fun r s₁=>match r with
   | none=>R (.ok .next) s₁
   | some v=>wpAny (model prog w) A (letOwnedTupleGo target it v) (fun _ s₁' =>wpAny (model prog w) A (assign target env v) (fun _ s₂=>
     wpAny (model prog w) A (Xp ifs env) (fun ok s₃=>
      if ok=true then wpAny (model prog w) A (eval elt env) (fun x s₄=>
       wpAny (model prog w) A (call (.builtin "list.append") [acc,x]) (fun _ s₅=>∃m,m<n/\I m s₅) (fun _ _=>False) s₄) (fun _ _=>False) s₃
      else∃m,m<n/\I m s₃) (fun _ _=>False) s₂) (fun _ _=>False) s₁') (fun _ _=>False) s₁) (fun _ _=>False) s)
  (n:Nat) (h:I n s):
  codeAny (model prog w) A (.compLoop (.ListComp elt [⟨target,iter,ifs,0⟩] scope pos) 0 it acc env) R s:=by
 refine codeAny_loop rfl I (fun n s hI=> ?_) n h;show wpAny _ A ((compTurn (.ListComp elt [⟨target,iter,ifs,0⟩] scope pos) 0 it acc env).onRaise (fun x=>do noteFrame x env;theTreesLotGoes x)) _ _ s;refine wpAny_noted ?_;rw[compTurn_list];refine z6 (wpAny_standAt (z6 (wpAny_mono (turn n s hI) (fun r s₁ h₁=> ?_) fun _ _ h' =>h'.elim)));cases r with
 | none=>exact z7 h₁
 | some v=>
  refine z6 (wpAny_mono h₁ (fun _ s₁' h₁' => ?_) fun _ _ h' =>h'.elim);refine z6 (wpAny_mono h₁' (fun _ s₂ h₂=>z6 (wpAny_mono h₂ (fun ok s₃ h₃=> ?_) fun _ _ h' =>h'.elim)) fun _ _ h' =>h'.elim);cases ok with
  | false=>exact z7 ⟨rfl,h₃⟩
  | true=>
   exact z6 (z6 (wpAny_mono h₃ (fun x s₄ h₄=>z6 (wpAny_mono h₄ (fun _ s₅ h₅=>z7 (z7 ⟨rfl,h₅⟩)) fun _ _ h' =>h'.elim)) fun _ _ h' =>h'.elim))
end
def JD(X:Cx)(ifs:List Expr)(t:TT):Prop:=
 ∀(pins:bA) (s:Shared) (σ:St) (H:Hp) (Q:Bool ->Hp ->Prop),Inv X pins σ H s ->t σ H Q ->wpAny (model X.prog X.w) X.A (Xp ifs X.env) (TP X pins σ Q) X.xe s
theorem z0w:JD X [] (fun _ H Q=>Q true H):=fun pins s σ H Q I h=>wpAny_tests_nil ⟨H,I,h⟩
theorem z2o(h:PT X c t):JD X [c] t:=fun pins s σ H Q I q=>wpAny_tests_one (h pins s σ H Q I q)
structure Ez (P:Program) (w:World) (K:W.Frag) (tg:Expr) (J:It) (fp:List Addr) (it:Addr) (tn:Nat ->Heap ->Prop) (cm:Cx ->Prop):Prop where
 mem:it∈fp
 obj:∀i h,tn i h ->∀b∈fp,∃o,h.get? b=some o/\∀v,o.data≠ .cell v
 keep:∀i h h',tn i h ->(∀b∈fp,∀o,h.get? b=some o ->h'.get? b=some o) ->tn i h'
 item:∀(X:Cx),X.prog=P ->X.w=w ->X.K=K ->cm X ->∀(i:Nat) (pins:bA) (s:Shared) (σ:St) (H:Hp) (E:bH),Inv X pins σ H s ->(∀b∈fp,gb X pins H b) ->tn i s.heap ->J.go i H ->
  wpAny (model P w) X.A (pyNext (.ref it)) (fun r s1=>∃u,r=some u/\
   wpAny (model P w) X.A (letOwnedTupleGo tg (.ref it) u) (fun _ s2=>∃x H',Inv X pins σ H' s2/\RelV x u/\J.yld i H x H' /\tn (i+1) s2.heap/\∀b∈fp,H' b=none) E s1) E s
 done:∀(X:Cx),X.prog=P ->X.w=w ->X.K=K ->cm X ->∀(i:Nat) (pins:bA) (s:Shared) (σ:St) (H:Hp) (E:bH),Inv X pins σ H s ->(∀b∈fp,gb X pins H b) ->tn i s.heap ->J.stop i H ->
  wpAny (model P w) X.A (pyNext (.ref it)) (fun r s1=>r=none/\Inv X pins σ H s1) E s
 self:∀(A:Around) (i:Nat) (s:Shared) (Q:bH) (E:bH),tn i s.heap ->Q (.ref it) s ->wpAny (model P w) A (pyIter (.ref it)) Q E s
def Qe(X:Cx)(pins:bA)(σ:St)(tg:Expr)(R:It ->Hp ->Prop)(itv:Value)(s2:Shared):Prop:=
 ∃(it:Addr) (fp:List Addr) (tn:Nat ->Heap ->Prop) (J:It) (H' :Hp) (cm:Cx ->Prop),itv= .ref it/\Inv X pins σ H' s2/\Ez X.prog X.w X.K tg J fp it tn cm/\tn 0 s2.heap/\ (∀b∈fp,gb X pins H' b)/\R J H' /\
  ∀Y:Cx,Y.A=X.A ->Y.calm=X.calm ->(∀b o u,H' b=some (.frz o u) ->Y.H₀ b=some (.frz o u)) ->cm Y
def Qf(X:Cx)(tg iter:Expr)(wi:TI):Prop:=
 ∀(pins:bA) (s:Shared) (σ:St) (H:Hp) (R:It ->Hp ->Prop),Inv X pins σ H s ->wi σ H R ->
  wpAny (model X.prog X.w) X.A (eval iter X.env) (fun v s1=>wpAny (model X.prog X.w) X.A (pyIter v) (Qe X pins σ tg R) X.xe s1) X.xe s
theorem Xq(hc:X.calm=true)(hi:PI X tg iter wi):Qf X tg iter wi:=fun pins s σ H R I h=>
 bD (hi pins s σ H R I h) fun v s1 h1=>bD h1 fun itv s2 hq1=>by obtain⟨it,fp,tn,J,H',e,I',T,st,f,r⟩:=hq1;exact⟨it,fp,tn,J,H',fun Y=>Y.calm=true,e,I',⟨T.mem,T.obj,T.keep,T.item,T.done,T.self⟩,st,f,r,fun Y _ q _=>q.trans hc⟩
def vZ(acc:Addr)(J:It)(σ' :St)(g:TG)(tc:TT)(te:TE)(Q:V ->Hp ->Prop)(H1:Hp):Prop:=
 ∃W:Nat ->Nat ->List V ->Hp ->Prop,(∃m,W 0 m [] H1)/\∀i m vs H,W i m vs H ->H acc=some (.lst vs)/\vs.length<sizeLine+1/\
  ((J.stop i H/\Q (.ref acc) H)\/ (J.go i H/\vs.length<sizeLine/\∀x H',J.yld i H x H' ->g x σ' H' fun σ2 H2=>tc σ2 H2 fun b H3=>
   if b=true then te σ2 H3 fun v H4=>H4 acc=some (.lst vs)/\∃m',m' <m/\W (i+1) m' (vs++ [v]) (upd H4 acc (.lst (vs++ [v])))
   else∃m',m' <m/\W (i+1) m' vs H3))
def EY(own:Nat)(caps:List Nat)(wi:TI)(g:TG)(tc:TT)(te:TE):TE:=fun σ H Q=>wi σ H fun J H1=>∀acc,H1 acc=none ->vZ acc J (nJ own caps σ) g tc te Q (upd H1 acc (.lst []))
section
variable{X:Cx}{sc:Scope}{own:List Str}{caps:List Nat}{N' :List Str}{elt tg iter:Expr}{ifs:List Expr}{pos:Pos}{wi:TI}{g:TG}{tc:TT}{te:TE}
theorem Xr(S:eV X.N sc own caps X.env N')(hi:Qf X tg iter wi)
  (hg:∀C s₀ H₀ fp,PG (blk X sc N' C s₀ H₀ fp) tg g) (ht:∀C s₀ H₀ fp,JD (blk X sc N' C s₀ H₀ fp) ifs tc) (he:∀C s₀ H₀ fp,PE (blk X sc N' C s₀ H₀ fp) elt te)
  (ee:e= .ListComp elt [⟨tg,iter,ifs,0⟩] sc pos) (hs:∀x,foldedSetIterable iter X.env x=pure x)
  (I:Inv X pins σ H s) (h:EY own.length caps wi g tc te σ H Q)
  (fin:∀acc C H' s5,Inv X pins σ H' s5 ->Q (.ref acc) H' ->(∃m,s5.heap.Ns C m) ->H' C=none ->C≠X.env.locals ->X.s₀.heap.objs.size<=C ->(∀x c,X.env.cells.lookup x=some c ->c≠C) ->(∀p∈X.pn++pins,p.1≠C) ->C∉X.fs ->
   compPost (model X.prog X.w) X.A X.xe use Qv (.ref acc) C (.ok .next) s5):
  wpAny (model X.prog X.w) X.A (comprehension e sc X.env ps (newList []) false (eval iter X.env) use) Qv X.xe s:=by
 subst ee;refine wpAny_comprehension_free (g:=⟨tg,iter,ifs,0⟩) (gs:= []) (cl:=iU X.env sc.names []) rfl hs (z0t (JB I S)) S.kind ?_ (bD (hi pins s σ H _ I h) fun v s1 h1=>bD h1 fun itv s2 h2=> ?_)
 ·intro p hp hk;have nd:=S.snd;rw[List.Nodup,List.pairwise_map] at nd;have d:∀(l:List (Str×NameKind)),(l.Pairwise fun a b=>a.1≠b.1) ->p∈l ->l.lookup p.1=some .local:=by
   intro l;induction l with
   | nil=>intro _ h;cases h
   | cons a r ih=>
    intro Qa h1;obtain⟨p1,p2⟩:=List.pairwise_cons.mp Qa;rcases zV.mp h1 with e1 | h1
    ·subst e1;rw[List.lookup_cons];simp [hk]
    ·have hb:(p.1==a.1)=false:=by rw[beq_eq_false_iff_ne];exact Ne.symm (p1 p h1)
     rw[List.lookup_cons,hb];exact ih p2 h1
  exact d _ nd hp
 obtain⟨it,fp,tn,J,H2,cm,rfl,I2,T,st2,f2,R2,hcm⟩:=h2;have hp0:=I2.fresh;refine wpAny_newObj_type ?_;have I3:=I2.lnew (its:= []) (ys:= []) (t' :=s2.toks) .nil (Nat.zero_le _);generalize hacc:s2.heap.objs.size=acc at*;obtain⟨W,⟨m0,w0⟩,turn⟩:=R2 acc hp0;have f3:∀b∈fp,gb X pins (upd H2 acc (.lst [])) b:=fun b hb=>by
  refine⟨?_,(f2 b hb).2⟩;obtain⟨o,eo,_⟩:=T.obj _ _ st2 b hb;rw[cQ (Nat.ne_of_lt (by rw[<- hacc];exact Heap.lt_size eo))]
  exact(f2 b hb).1
 have hc:∀C s₀,cm (blk X sc N' C s₀ (upd H2 acc (.lst [])) fp):=fun C s₀=>hcm _ rfl rfl fun b o u e=>by rw[show(blk X sc N' C s₀ (upd H2 acc (.lst [])) fp).H₀=upd H2 acc (.lst []) from rfl,cQ (jV e hp0)];exact e
 have hlt:∀b∈fp,b< (s2.heap.push {cls:= .type "list",data:= .seq ([]:List Value).toArray}).objs.size:=fun b hb=>by
  obtain⟨o,eo,_⟩:=T.obj _ _ st2 b hb;rw[Heap.size_push];exact Nat.lt_succ_of_lt (zJ eo)
 have st3:tn 0 (s2.heap.push {cls:= .type "list",data:= .seq ([]:List Value).toArray}):=T.keep _ _ _ st2 fun b hb o e=>z8 _ e;refine zst ?_;show codeAny _ _ (.compStart (.ListComp elt [⟨tg,iter,ifs,0⟩] sc pos) 0 (.ref it) (.ref acc) (fu sc (s2.heap.push {cls:= .type "list",data:= .seq ([]:List Value).toArray}).objs.size X.env)) (compPost _ _ _ use Qv (.ref acc) (s2.heap.push {cls:= .type "list",data:= .seq ([]:List Value).toArray}).objs.size) _;generalize hs3:({s2 with heap:=s2.heap.push {cls:= .type "list",data:= .seq ([]:List Value).toArray},toks:=s2.toks}:Shared)=s3 at*;have hh3:s2.heap.push {cls:= .type "list",data:= .seq ([]:List Value).toArray}=s3.heap:=by rw[<- hs3]
 have aaK :({s2 with heap:=s2.heap.push {cls:= .type "list",data:= .seq ([]:List Value).toArray}}:Shared)=s3:=by rw[<- hs3]
 rw[hh3] at hlt st3⊢;have I4:=zvb I3 S f3 hlt;have Xu:tn 0 (pushCells (s3.heap.push {cls:= .type "dict",data:= .dict #[]}) sc.names):=T.keep _ _ _ st3 fun b hb o e=>pushCells_keeps _ _ b o (z8 _ e);have key:codeAny (model X.prog X.w) X.A (.compLoop (.ListComp elt [⟨tg,iter,ifs,0⟩] sc pos) 0 (.ref it) (.ref acc) (fu sc s3.heap.objs.size X.env)) (compPost (model X.prog X.w) X.A X.xe use Qv (.ref acc) s3.heap.objs.size)
   {s3 with heap:=pushCells (s3.heap.push {cls:= .type "dict",data:= .dict #[]}) sc.names}:=by
  have stat:∀{H' :Hp},(∀b∈fp,H' b=none) ->∀b∈fp,gb (blk X sc N' s3.heap.objs.size s3 (upd H2 acc (.lst [])) fp) [] H' b:=fun hn b hb=>
   ⟨hn b hb,(I4.ok.Vp b hb).1,I4.ok.xq b hb,.inl hb,(I4.ok.Vp b hb).2,fun p hp=>absurd (show p∈ ([]:bA) from hp) (by simp)⟩
  refine zu3 (fun n s' =>∃i vs σ' H',Inv (blk X sc N' s3.heap.objs.size s3 (upd H2 acc (.lst [])) fp) [] σ' H' s' /\tn i s'.heap/\ (∀b∈fp,H' b=none)/\W i n vs H') ?_ m0
   ⟨0,[],nJ own.length caps σ,_,I4,Xu,fun b hb=>(f3 b hb).1,w0⟩
  rintro n s5 ⟨i,vs,σ5,H5,I5,Ag,Jd,w5⟩;obtain⟨ha5,Qg,⟨stop,qn⟩ | ⟨go,hz,step⟩⟩:=turn i n vs H5 w5
  ·refine bD (T.done (blk X sc N' s3.heap.objs.size s3 (upd H2 acc (.lst [])) fp) rfl rfl rfl (hc _ _) i [] s5 σ5 H5 _ I5 (stat Jd) Ag stop) fun r s6 ⟨hr,I6⟩=> ?_;subst hr;have IX:Inv X pins σ H5 s6:=I3.call' (ch:=fp) I6.os I6.base I6.hok I6.bare fun b hb=>⟨(f3 b hb).2.2.2.1,(f3 b hb).2.1,(f3 b hb).2.2.2.2.1,(f3 b hb).2.2.2.2.2⟩;obtain⟨m6,hn6,_⟩:=I6.loc;refine fin acc s3.heap.objs.size H5 s6 IX qn ⟨m6,hn6⟩ I6.free (Nat.ne_of_gt I3.lt) I3.sz (fun x c e z=> ?_) (fun p hp z=> ?_) (I3.nofs (zO _))
   ·obtain⟨v,q⟩:=I3.cell x c e;exact absurd q.lt (by rw[z];exact yX _)
   ·exact absurd (zJ (I3.pin p hp).1) (by rw[z];exact yX _)
  ·
   have Mt :Inv (blk X sc N' s3.heap.objs.size s3 (upd H2 acc (.lst [])) fp) [] (nJ own.length caps σ) H5 s5:=zvp I3 S f3 I5;refine bD (T.item (blk X sc N' s3.heap.objs.size s3 (upd H2 acc (.lst [])) fp) rfl rfl rfl (hc _ _) i [] s5 _ H5 _ Mt (stat Jd) Ag go) fun r s6 ⟨u,hr,h6⟩=> ?_;subst hr;refine bD h6 fun _ s7 hq2=> ?_;obtain⟨x,H7,I7,r7,y7,Qh,fr7⟩:=hq2;have I7' :=I7.pinned (stat fr7) (T.obj _ _ Qh);refine bD (hg _ _ _ _ _ s7 _ H7 x u _ I7' r7 (step x H7 y7)) fun _ s8 ⟨σ8,H8,I8,q8⟩=> ?_;refine bD (ht _ _ _ _ _ s8 σ8 H8 _ I8 q8) fun b s9 ⟨H9,I9,q9⟩=> ?_;have again:∀{vs' :List V} {σ' :St} {H' :Hp} {s' :Shared},Inv (blk X sc N' s3.heap.objs.size s3 (upd H2 acc (.lst [])) fp) ([]++jX fp s7.heap) σ' H' s' ->(∃m',m' <n/\W (i+1) m' vs' H') ->
     ∃m,m<n/\∃i vs σ' H',Inv (blk X sc N' s3.heap.objs.size s3 (upd H2 acc (.lst [])) fp) [] σ' H' s' /\tn i s'.heap/\ (∀b∈fp,H' b=none)/\W i m vs H' :=fun{vs' σ' H' s'} I' ⟨m',hm,w'⟩=>by
    refine⟨m',hm,i+1,vs',σ',H',I'.unpinned,T.keep _ _ _ Qh fun b hb o e=>(I'.pin (b,o) (zR _ (zR _ (Jc hb e)))).1,fun b hb=> ?_,w'⟩;obtain⟨o,e,d⟩:=T.obj _ _ Qh b hb;exact(I'.pin (b,o) (zR _ (zR _ (Jc hb e)))).2.1
   cases b with
   | false=>
    rw[if_neg Bool.false_ne_true] at q9⊢;exact again I9 q9
   | true=>
    rw[if_pos rfl] at q9⊢;refine bD (he _ _ _ _ _ s9 σ8 H9 _ I9 q9) fun y s10 qJ=> ?_;obtain⟨v,Xv,I10,r10,yt,q10⟩:=qJ;refine bD (Wl (X:=blk X sc N' s3.heap.objs.size s3 (upd H2 acc (.lst [])) fp) _ s10 σ8 Xv (.ref acc) [v] (.ref acc) [y] (fun _ H' =>H' =upd Xv acc (.lst (vs++ [v]))) I10 rfl (.cons r10 .nil) ⟨acc,vs,v,rfl,rfl,yt,hz,rfl⟩) fun _ s11 pB=> ?_;obtain⟨_,H11,I11,_,e11⟩:=pB;subst e11;exact again I11 q10
 exact codeAny_compStart_list key (T.self _ _ _ _ _ Xu key)
end
def v7(K:W.Frag)(F Hx:Hp)(J:It)(ds:List D):Prop:=ds.length<=sizeLine/\∀(i:Nat) (H1 F1:Hp),Same F F1 ->Same F1 H1 ->Same Hx H1 ->
 (i=ds.length ->J.stop i H1)/\∀d,ds[i]?=some d ->J.go i H1/\∀x H',J.yld i H1 x H' ->∃F2,Gr F1 H1 F2 H' /\Rep K F2 d x
def yu:Hp:=fun _=>none
theorem Xw:Same yu H:=fun _ _ e=>by cases e
def Xx(K:W.Frag)(F0 H0:Hp)(t:aZ)(E:XW):TI:=fun σ H R=>∃F Γ P,SR K F0 H0 F H σ Γ/\t Γ P E/\∀ds Γ' F' H' J Hx,SR K F0 H0 F' H' σ Γ' ->Same F F' ->Same Hx H' ->v7 K F' Hx J ds ->P ds Γ' ->R J H'
def Qi(K:W.Frag)(F0 H0:Hp)(t:aZ)(E:XW):TI:=fun σ H R=>∃F Γ P,SR K F0 H0 F H σ Γ/\t Γ P E/\∀ds Γ' F' H' J,SR K F0 H0 F' H' σ Γ' ->Same F F' ->v7 K F' yu J ds ->P ds Γ' ->R J H'
def QI(X:Cx)(F0 H0:Hp)(tg e:Expr)(t:aZ):Prop:=∀z E,Ctx (X.wsh z) F0 H0 E ->PI (X.wsh z) tg e (Qi X.K F0 H0 t E)
def Qj(X:Cx)(F0 H0:Hp)(tg e:Expr)(t:aZ):Prop:=∀z E,Ctx (X.wsh z) F0 H0 E ->PI (X.wsh z) tg e (Xx X.K F0 H0 t E)
theorem Az(h:PI X tg e t)(hi:∀σ H R,t' σ H R ->t σ H R):PI X tg e t' :=fun pins s σ H R I q=>h pins s σ H R I (hi _ _ _ q)
theorem nU(h:QI X F0 H0 tg e t):Qj X F0 H0 tg e t:=fun z E cx=>Az (h z E cx) fun σ H R hq1=>by obtain⟨F,Γ,P,S,q,k⟩:=hq1;exact⟨F,Γ,P,S,q,fun ds Γ' F' H' J S' s' hJ hp=>k ds Γ' F' H' J yu S' s' Xw hJ hp⟩
def Fb(K:W.Frag)(tl:TE):TI:=fun σ H R=>tl σ H fun x H1=>∃a,x= .ref a/\ ((∃xs,fL K H1 a xs/\ (xs.length<=sizeLine ->R (xJ K a) H1))\/ (∃xs,iQ K H1 a xs/\ (xs.length<=sizeLine ->R (vR K a) H1)))
theorem zz5(hl:PE X l tl):PI X tg l (Fb X.K tl):=by
 intro pins s σ H R I h;refine bD (hl pins s σ H _ I h) fun v s1 hq2=> ?_;obtain⟨x,H1,I1,r1,q1⟩:=hq2;obtain⟨a,e,q⟩:=q1;subst e;cases r1;rcases q with ⟨xs,hq,q⟩ | ⟨xs,hq,q⟩
 ·obtain⟨its,rv,p,hz⟩:=I1.list hq;refine wpAny_pyIter_list p.isList ?_;refine⟨s1.heap.objs.size,[s1.heap.objs.size],_,_,H1,rfl,I1.kept (t' :=s1.toks) fun b o e=>z8 _ e,VD a _,⟨_,z9 _ rfl,rfl,rfl⟩,fun b hb=> ?_,q hz⟩;obtain rfl:b=s1.heap.objs.size:=by simpa using hb
  exact I1.fpOk (zO _) (I1.hok.fresh (zO _))
 ·obtain⟨its,rv,p,hz⟩:=I1.tuple hq;refine wpAny_pyIter_tuple (show s1.heap.IsTuple a its.toArray from p) ?_;refine⟨s1.heap.objs.size,[s1.heap.objs.size],_,_,H1,rfl,I1.kept (t' :=s1.toks) fun b o e=>z8 _ e,VF a _,⟨_,z9 _ rfl,rfl,rfl⟩,fun b hb=> ?_,q hz⟩;obtain rfl:b=s1.heap.objs.size:=by simpa using hb
  exact I1.fpOk (zO _) (I1.hok.fresh (zO _))
theorem z19{K:W.Frag}{F Hx:Hp}{a:Addr}{vs:List V}{ds:List D}(hq:∀H1,Same F H1 ->iQ K H1 a vs)(rs:ak K F ds vs)(hz:vs.length<=sizeLine):v7 K F Hx (vR K a) ds:=by
 have hl:=fY rs;refine⟨by omega,fun i H1 F1 s1 s2 s3=>⟨fun e=>⟨vs,hq H1 (s1.trans s2),by omega⟩,fun d hd=> ?_⟩⟩
 obtain⟨v,hv,rv⟩:=nP rs hd;refine⟨⟨vs,v,hq H1 (s1.trans s2),hv⟩,fun x H' y=> ?_⟩;obtain⟨rfl,y⟩:=y;have:=y vs (hq _ (s1.trans s2));rw[hv] at this;cases this;exact⟨F1,Gr.refl s2,rv.up s1⟩
def iL(te:aG):aZ:=fun Γ P E=>te Γ (fun d Γ1=>match d with | .lst ds=>P ds Γ1 | .tup ds=>P ds Γ1 | _=>False) E
section
variable{X:Cx}{F0 H0:Hp}{e tg:Expr}{es:List Expr}{pos:Pos}{te:aG}{g:jO}{gs:lQ}{ti:aZ}{tb:au}
theorem qL(h:QE X F0 H0 e te):QI X F0 H0 tg e (iL te):=fun z E cx=>Az (zz5 (h z E cx)) fun σ H R qJ=>by obtain⟨F,Γ,P,S,q,k⟩:=qJ;exact⟨F,Γ,_,S,q,fun d Γ1 F1 H1 v R1 s1 r1 h1=>by
 cases d with
 | lst ds=>
  unfold Rep at r1;obtain⟨a,vs,rfl,hq,rs⟩:=r1;refine⟨a,rfl,.inl ⟨vs,R1.g.seq hq,fun hz=>k ds Γ1 F1 H1 _ R1 s1 ?_ h1⟩⟩;refine⟨by rw[fY rs];exact hz,fun i H2 F2 s2 s3 s4=>⟨fun e=>⟨vs,s3.seq (s2.seq hq),by rw[e,fY rs];exact zO _⟩,fun d hd=> ?_⟩⟩
  obtain⟨v,hv,rv⟩:=nP rs hd;refine⟨⟨vs,v,s3.seq (s2.seq hq),hv⟩,fun x H' y=> ?_⟩;obtain⟨rfl,y⟩:=y;have:=y vs (s3.seq (s2.seq hq));rw[hv] at this;cases this;exact⟨F2,Gr.refl s3,rv.up s2⟩
 | tup ds=>
  unfold Rep at r1;obtain⟨a,vs,rfl,hq,rs⟩:=r1;exact⟨a,rfl,.inr ⟨vs,j4 R1.g hq,fun hz=>k ds Γ1 F1 H1 _ R1 s1 (z19 (fun H2 s=>j4 s hq) rs hz) h1⟩⟩
 | _=>exact False.elim h1⟩
def nW(ti:aZ)(g:jO)(tb:au):au:=fun D0 Γ E=>ti Γ (fun ds Γ1=>lZ ds g tb D0 E Γ1) E
theorem Qk(hc:X.calm=true)(hi:QI X F0 H0 tg iter ti)(hg:QG X F0 H0 tg g)(hb:pA X F0 H0 body tb)(hs:∀x,foldedSetIterable iter X.env x=pure x:=by intro _;rfl):
  QS X F0 H0 (.For tg iter body [] pos) (nW ti g tb):=fun z E cx=>
 lY (Dh (X:=X.wsh z) cx.po hc (hi z E cx) (hg z E cx) (hb z E cx) hs) fun Dn σ H pB=>by obtain⟨F,Γ,D2,R,h,k⟩:=pB;exact⟨F,Γ,_,R,h,fun ds Γ1 F1 H1 J R1 s1 hJ h1=>by
  obtain⟨I,i0,turn,done⟩:=h1;refine⟨fun i m σ H=>m=ds.length - i/\i<=ds.length/\∃F2 Γ2,SR X.K F0 H0 F2 H σ Γ2/\Same F1 F2/\I i Γ2,⟨ds.length,by simp,Nat.zero_le _,F1,Γ1,R1,.refl _,i0⟩,?_⟩
  rintro i m σ H ⟨rfl,hi,F2,Γ2,R2,s2,hI⟩;obtain⟨hstop,hgo⟩:=hJ.2 i H F2 s2 R2.g Xw;by_cases hlt:i<ds.length
  ·obtain⟨go,yl⟩:=hgo ds[i] (zZ hlt);refine .inr ⟨go,fun σ H=>∃F2 Γ2,SR X.K F0 H0 F2 H σ Γ2/\Same F1 F2/\I (i+1) Γ2,fun σ' H' p' =>⟨ds.length - (i+1),by omega,rfl,hlt,p'⟩,fun x H' y=> ?_⟩
   obtain⟨F3,gr,rx⟩:=yl x H' y;exact⟨F3,Γ2,_,ds[i],R2.grow gr,rx,turn i ds[i] Γ2 (zZ hlt) hI,fun Γ4 F4 H4 σ4 R4 s4 p=>⟨F4,Γ4,{D2 with nx:=I (i+1),ct:=I (i+1),bk:=D2.nx},R4,p,⟨fun Γ5 F5 H5 σ5 R5 s5 q=>⟨F5,Γ5,R5,s2.trans (gr.f.trans (s4.trans s5)),q⟩,
    fun Γ5 F5 H5 σ5 R5 s5 q=>k.nx _ _ _ _ R5 (s1.trans (s2.trans (gr.f.trans (s4.trans s5)))) q,fun Γ5 F5 H5 σ5 R5 s5 q=>⟨F5,Γ5,R5,s2.trans (gr.f.trans (s4.trans s5)),q⟩,k.rt,k.rf,k.rT,k.rm⟩⟩⟩
  ·obtain rfl:i=ds.length:=by omega
   exact .inl ⟨hstop rfl,k.nx _ _ _ _ R2 (s1.trans s2) (done _ hI)⟩⟩
def su(Γ:G2)(j:Nat):Slot:=match Γ[j]? with | some (.pu d)=> .pu d | _=> .no
def j9(own:Nat)(caps:List Nat)(Γ:G2):G2:=List.replicate own .no++caps.map (su Γ)
theorem zyx{K:W.Frag}{F H:Hp}{σ:St}{Γ:G2}(own:Nat)(caps:List Nat)(R:SR K F0 H0 F H σ Γ):SR K F H F H (nJ own caps σ) (j9 own caps Γ):=by
 have len:(nJ own caps σ).length=(j9 own caps Γ).length:=by simp [nJ,j9]
 have yw:∀(i:Nat) s o a,(j9 own caps Γ)[i]?=some s ->¬dY s o a:=fun i s o a e=>by
  unfold j9 at e;by_cases hi:i<own
  ·rw[List.getElem?_append_left (by simpa using hi),List.getElem?_replicate] at e
   rw[if_pos hi] at e;cases e;exact fun h=>h
  ·rw[List.getElem?_append_right (by simpa using hi),List.getElem?_map] at e
   cases q:caps[i - (List.replicate own Slot.no).length]? with
   | none=>rw[q] at e;cases e
   | some j=>
    rw[q] at e;have e' :su Γ j=s:=by simpa using e
    unfold su at e';split at e' <;>(subst e';exact fun h=>h)
 refine⟨Gr.refl R.g,len,fun i s e=> ?_,fun i j a uh=>by obtain⟨s,o,e,_,h⟩:=uh;exact absurd h (yw i s o a e)⟩
 by_cases hi:i<own
 ·refine⟨none,?_,?_⟩
  ·unfold nJ;rw[List.getElem?_append_left (by simpa using hi),List.getElem?_replicate,if_pos hi]
  ·unfold j9 at e;rw[List.getElem?_append_left (by simpa using hi),List.getElem?_replicate,if_pos hi] at e
   cases e;trivial
 ·unfold j9 at e;rw[List.getElem?_append_right (by simpa using hi),List.getElem?_map,List.length_replicate] at e
  cases q:caps[i - own]? with
  | none=>rw[q] at e;cases e
  | some j=>
   rw[q] at e;have e' :su Γ j=s:=by simpa using e
   refine⟨(σ[j]?).join,?_,?_⟩
   ·unfold nJ;rw[List.getElem?_append_right (by simpa using hi),List.getElem?_map,List.length_replicate,q];rfl
   ·unfold su at e';split at e'
    ·rename_i d hd;subst e';obtain⟨o,e1,v,rfl,rv⟩:=R.sl j _ hd;exact⟨v,by rw[e1];rfl,rv⟩
    ·subst e';trivial
def vg(g:jO)(tc:TT2)(te:aG)(Γ0:G2)(x:D)(P:List D ->Prop):Prop:=g x Γ0 (fun Γ1=>tc Γ1 (fun b Γ2=>if b=true then te Γ2 (fun d _=>P [d]) j7 else P []) j7) j7
def bJ(one:D ->(List D ->Prop) ->Prop):List D ->(List D ->Prop) ->Prop
 | [],P=>P []
 | x::xs,P=>one x fun ys=>bJ one xs fun zs=>P (ys++zs)
def cH(own:Nat)(caps:List Nat)(ti:aZ)(g:jO)(tc:TT2)(te:aG):aZ:=fun Γ P E=>ti Γ (fun ds Γ1=>bJ (vg g tc te (j9 own caps Γ1)) ds fun ys=>P ys Γ1) E
def gj:TT2:=fun Γ P _=>P true Γ
def Fd(X:Cx)(F0 H0:Hp)(ifs:List Expr)(t:TT2):Prop:=∀z E,Ctx (X.wsh z) F0 H0 E ->JD (X.wsh z) ifs (Ed X.K F0 H0 t E)
theorem qb:Fd X F0 H0 [] gj:=fun z E cx pins s σ H Q I xZ=>by obtain⟨F,Γ,P,R,h,k⟩:=xZ;exact z0w pins s σ H Q I (k _ _ _ _ R (.refl _) h)
theorem Ql(h:QT X F0 H0 c t):Fd X F0 H0 [c] t:=fun z E cx=>z2o (h z E cx)
end
section
variable{X:Cx}{F0 H0:Hp}{elt tg iter:Expr}{ifs:List Expr}{sc:Scope}{own:List Str}{caps:List Nat}{N' :List Str}{pos:Pos}{te:aG}{g:jO}{tc:TT2}{ti:aZ}
def gX(K:W.Frag)(g:jO):TG:=fun v σ H Q=>∃F0 H0,Jr K F0 H0 g j7 v σ H Q
def tX(K:W.Frag)(t:TT2):TT:=fun σ H Q=>∃F0 H0,Ed K F0 H0 t j7 σ H Q
def eX(K:W.Frag)(t:aG):TE:=fun σ H Q=>∃F0 H0,xX K F0 H0 t j7 σ H Q
theorem Xy(gr:Gr F H F' H')(h:F a=none)(e:H a=some (.lst vs)):F' a=none:=by
 cases q:F' a with
 | none=>rfl
 | some u=>
  rcases gr.n a u q h with z | ⟨⟨xs,e'⟩,z⟩
  ·rw[e] at z;cases z
  ·rw[e] at z;cases z;cases e'
theorem Xz{K:W.Frag}{F H:Hp}{σ:St}{Γ:G2}{J:It}{Hx:Hp}{ds:List D}{acc:Addr}{P:List D ->Prop}{Q:V ->Hp ->Prop}(R:SR K F0 H0 F H σ Γ)(hJ:v7 K F Hx J ds)(hx:Same Hx H)(ha:H acc=none)
  (h:bJ (vg g tc te (j9 own.length caps Γ)) ds P)
  (fin:∀ys F' H' vs,SR K F0 H0 F' H' σ Γ ->Same F F' ->H' acc=some (.lst vs) ->F' acc=none ->H0 acc=none ->ak K F' ys vs ->Apart σ Γ acc ->P ys ->Q (.ref acc) H'):
  vZ acc J (nJ own.length caps σ) (gX K g) (tX K tc) (eX K te) Q (upd H acc (.lst [])):=by
 obtain⟨R1,e1,e2,e3,ap⟩:=yd (ds:= []) (vs:= []) R ha (by unfold ak;rfl)
 have hx1:Same Hx (upd H acc (.lst [])):=fun b u e=>by rw[cQ (jV (hx b u e) ha)];exact hx b u e
 have xa:∀u,Hx acc≠some u:=fun u e=>by rw[hx acc u e] at ha;cases ha
 refine⟨fun i m vs H' =>m=ds.length - i/\i<=ds.length/\∃F' ys,SR K F0 H0 F' H' σ Γ/\Same F F' /\Same Hx H' /\H' acc=some (.lst vs)/\F' acc=none/\ak K F' ys vs/\vs.length<=i/\bJ (vg g tc te (j9 own.length caps Γ)) (ds.drop i) (fun zs=>P (ys++zs)),
  ⟨ds.length,by simp,Nat.zero_le _,F,[],R1,.refl _,hx1,e1,e2,by unfold ak;rfl,zO _,by simpa using h⟩,?_⟩
 rintro i m vs H' ⟨rfl,hi,F',ys,R',sF,hx',ha',Qm,rs,lv,hc⟩;have hz:=hJ.1;refine⟨ha',by omega,?_⟩
 obtain⟨hstop,hgo⟩:=hJ.2 i H' F' sF R'.g hx';by_cases hlt:i<ds.length
 ·obtain⟨go,yl⟩:=hgo ds[i] (zZ hlt);refine .inr ⟨go,by omega,fun x H2 y=> ?_⟩
  obtain⟨F2,gr,rx⟩:=yl x H2 y;rw[List.drop_eq_getElem_cons hlt] at hc;have R2:=R'.grow gr;refine⟨F2,H2,F2,j9 own.length caps Γ,_,ds[i],zyx own.length caps R2,rx,hc,fun Γ3 F3 H3 σ3 R3 s3 q3=> ?_⟩;refine⟨F2,H2,F3,Γ3,_,R3,q3,fun b Γ4 F4 H4 R4 s4 q4=> ?_⟩;have uo:Gr F' H' F4 H4:=gr.trans R4.gr;cases b with
  | false=>
   rw[if_neg Bool.false_ne_true] at q4;show∃m',m' <ds.length - i/\_;refine⟨ds.length - (i+1),by omega,rfl,hlt,F4,ys,R'.grow uo,sF.trans uo.f,fun b u e=>uo.h b u (hx' b u e),uo.h _ _ ha',Xy uo Qm ha',rs.up uo.f,by omega,?_⟩
   simpa using q4
  | true=>
   rw[if_pos rfl] at q4;show eX K te σ3 H4 _;refine⟨F2,H2,F4,Γ4,_,R4,q4,fun d Γ5 F5 H5 v R5 s5 rv q5=> ?_⟩;have sy:Gr F' H' F5 H5:=gr.trans R5.gr;have a5:=sy.h _ _ ha';have f5:=Xy sy Qm ha';refine⟨a5,ds.length - (i+1),by omega,rfl,hlt,F5,ys++ [d],?_,sF.trans sy.f,fun b u e=> ?_,jL,f5,xV (rs.up sy.f) (DQ rv),by simp;omega,?_⟩
   ·have R6:=R'.grow sy;refine⟨⟨R6.gr.f,fun b u e=> ?_,fun b u e=> ?_,R6.gr.n⟩,R6.len,fun j sl e=> ?_,R6.ap⟩
    ·rw[cQ (jV e f5)];exact R6.g b u e
    ·rw[cQ (jV e e3)];exact R6.gr.h b u e
    ·obtain⟨o,p1,p2⟩:=R6.sl j sl e;refine⟨o,p1,DR p2 (.refl _) fun c hc=>⟨(ug p2 hc).1,fun u q=> ?_⟩⟩;have:c≠acc:=fun z=>by subst z;exact ap j ⟨sl,o,e,p1,hc⟩
     rw[cQ this];exact q
   ·rw[cQ (fun z=>xa u (by rw[<- z];exact e))];exact sy.h b u (hx' b u e)
   ·simpa [List.append_assoc] using q5
 ·obtain rfl:i=ds.length:=by omega
  refine .inl ⟨hstop rfl,fin ys F' H' vs R' sF ha' Qm e3 rs ap ?_⟩;rw[List.drop_length] at hc
  simpa [bJ] using hc
structure dM (N:List Str) (sc:Scope) (own:List Str) (caps:List Nat) (Fe:Scope) (N' :List Str):Prop where
 kind:sc.kind= .function
 nd:N'.Nodup
 snd:(sc.names.map (·.1)).Nodup
 free:∀p∈sc.names,p.2= .free ->Fe.names.lookup p.1=some .cell\/Fe.names.lookup p.1=some .free
 names:N' =own++caps.map fun j=>N.getD j ""
 caps:∀j∈caps,j<N.length/\sc.names.lookup (N.getD j "")=some .free
theorem dM.cs(h:dM X.N sc own caps X.env.scope N'):eV X.N sc own caps X.env N' :=⟨h.kind,h.nd,h.snd,h.free,h.names,h.caps⟩
def QIg(X:Cx)(F0 H0:Hp)(tg e:Expr)(t:aZ):Prop:=∀z E,Ctx (X.wsh z) F0 H0 E ->Qf (X.wsh z) tg e (Xx X.K F0 H0 t E)
theorem zxp(S:dM X.N sc own caps X.env.scope N')(hi:QIg X F0 H0 tg iter ti)
  (hg:∀C s₀ H₀ fp F0 H0,QG (blk X sc N' C s₀ H₀ fp) F0 H0 tg g) (ht:∀C s₀ H₀ fp F0 H0,Fd (blk X sc N' C s₀ H₀ fp) F0 H0 ifs tc) (he:∀C s₀ H₀ fp F0 H0,QE (blk X sc N' C s₀ H₀ fp) F0 H0 elt te)
  (hn:own.length=n:=by rfl) (hs:∀x,foldedSetIterable iter X.env x=pure x:=by intro _;rfl):QF X F0 H0 (.ListComp elt [⟨tg,iter,ifs,0⟩] sc pos) (cH n caps ti g tc te):=by
 subst hn;rintro z E cx pins s σ H Q I ⟨F,Γ,P,R,h,k⟩;rw[show eval (.ListComp elt [⟨tg,iter,ifs,0⟩] sc pos) (X.wsh z).env=comprehension (.ListComp elt [⟨tg,iter,ifs,0⟩] sc pos) sc X.env _ (newList []) false (eval iter X.env) from eval_ListComp ..];refine Xr (X:=X.wsh z) (g:=gX X.K g) (tc:=tX X.K tc) (te:=eX X.K te) (Q:=Q) (dM.cs (X:=X.wsh z) S) (hi z E cx) ?_ ?_ ?_ rfl hs I ?_ ?_
 ·rintro C s₀ H₀ fp pins s σ H v u Q I r ⟨sE,sG,q⟩;exact hg C s₀ H₀ fp sE sG ⟨fun _ _=>False,[]⟩ j7 Av pins s σ H v u Q I r q
 ·rintro C s₀ H₀ fp pins s σ H Q I ⟨sE,sG,q⟩;exact ht C s₀ H₀ fp sE sG ⟨fun _ _=>False,[]⟩ j7 Av pins s σ H Q I q
 ·rintro C s₀ H₀ fp pins s σ H Q I ⟨sE,sG,q⟩;exact he C s₀ H₀ fp sE sG ⟨fun _ _=>False,[]⟩ j7 Av pins s σ H Q I q
 ·exact⟨F,Γ,_,R,h,fun ds Γ1 F1 H1 J Hx R1 s1 hx hJ h1 acc ha=>Xz R1 hJ hx ha h1 fun ys F' H' vs R' sF a1 a2 a3 rs ap hp=>k ys Γ1 F' H' acc vs R' (s1.trans sF) a1 a2 a3 rs ap hp⟩
 ·rintro acc C H' s5 I5 q5 ⟨m,hn⟩ c1 c2 c3 c4 c5 c6;exact⟨m,hn,fun h' hs' =>⟨.ref acc,H',I5.turned (t' :=s5.toks) (it:=C) (fun b o hb e=>(hs'.2 b hb).trans e) c1 c2 (.inr c3) c4 c5,rfl,q5⟩⟩
theorem rD(S:dM X.N sc own caps X.env.scope N')(hc:X.calm=true)(hi:Qj X F0 H0 tg iter ti)
  (hg:∀C s₀ H₀ fp F0 H0,QG (blk X sc N' C s₀ H₀ fp) F0 H0 tg g) (ht:∀C s₀ H₀ fp F0 H0,Fd (blk X sc N' C s₀ H₀ fp) F0 H0 ifs tc) (he:∀C s₀ H₀ fp F0 H0,QE (blk X sc N' C s₀ H₀ fp) F0 H0 elt te)
  (hn:own.length=n:=by rfl) (hs:∀x,foldedSetIterable iter X.env x=pure x:=by intro _;rfl):QF X F0 H0 (.ListComp elt [⟨tg,iter,ifs,0⟩] sc pos) (cH n caps ti g tc te):=zxp S (fun z E cx=>Xq hc (hi z E cx)) hg ht he hn hs
theorem Fg(hN:X.N.Nodup)(hi' :X.N[i]?=some y)(hy:X.env.scope.names.lookup y=some .local)(S:dM X.N sc own caps X.env.scope N')(hc:X.calm=true)(hi:Qj X F0 H0 tg iter ti)
  (hg:∀C s₀ H₀ fp F0 H0,QG (blk X sc N' C s₀ H₀ fp) F0 H0 tg g) (ht:∀C s₀ H₀ fp F0 H0,Fd (blk X sc N' C s₀ H₀ fp) F0 H0 ifs tc) (he:∀C s₀ H₀ fp F0 H0,QE (blk X sc N' C s₀ H₀ fp) F0 H0 elt te)
  (hn:own.length=n:=by rfl) (hsw:swapsWith (.ListComp elt [⟨tg,iter,ifs,0⟩] sc pos) (some (.Name y py)) spos.line X.env=pure true:=by rfl) (hs:∀x,foldedSetIterable iter X.env x=pure x:=by intro _;rfl):
  QS X F0 H0 (.Assign [.Name y py] (.ListComp elt [⟨tg,iter,ifs,0⟩] sc pos) spos) (gZ i (cH n caps ti g tc te)):=by
 subst hn;rintro z E cx pins s σ H Dn I ⟨F,Γ,D2,R,h,k⟩;show wpAny _ _ (exec (.Assign [.Name y py] (.ListComp elt [⟨tg,iter,ifs,0⟩] sc pos) spos) X.env) _ _ _;rw[exec_Assign_Name_used _ _ _ _ hsw];refine z6 (wpAny_standAt (z6 ?_));show wpAny _ _ (do let _<- comprehension (.ListComp elt [⟨tg,iter,ifs,0⟩] sc pos) sc X.env _ (newList []) false (eval iter X.env) (some (assign (.Name y py) X.env))) _ _ s;refine z6 (wpAny_mono (Xr (X:=X.wsh z) (use:=some (assign (.Name y py) X.env)) (Qv:=fun _ s' =>SP (X.wsh z) pins Dn .next s') (g:=gX X.K g) (tc:=tX X.K tc) (te:=eX X.K te) (Q:=fun v H' =>Dn.nx (σ.set i (some v)) H') (dM.cs (X:=X.wsh z) S) (Xq hc (hi z E cx)) ?_ ?_ ?_ rfl hs I ?_ ?_) (fun _ s' hq=>z7 (z7 hq)) fun _ _ e=>e)
 ·rintro C s₀ H₀ fp pins s σ H v u Q I r ⟨sE,sG,q⟩;exact hg C s₀ H₀ fp sE sG ⟨fun _ _=>False,[]⟩ j7 Av pins s σ H v u Q I r q
 ·rintro C s₀ H₀ fp pins s σ H Q I ⟨sE,sG,q⟩;exact ht C s₀ H₀ fp sE sG ⟨fun _ _=>False,[]⟩ j7 Av pins s σ H Q I q
 ·rintro C s₀ H₀ fp pins s σ H Q I ⟨sE,sG,q⟩;exact he C s₀ H₀ fp sE sG ⟨fun _ _=>False,[]⟩ j7 Av pins s σ H Q I q
 ·exact⟨F,Γ,_,R,h,fun ds Γ1 F1 H1 J Hx R1 s1 hx hJ h1 acc ha=>Xz R1 hJ hx ha h1 fun ys F' H' vs R' sF a1 a2 a3 rs ap hp=>k.nx _ _ _ _ (R'.setOw i a1 a2 a3 rs ap) (s1.trans sF) hp⟩
 ·rintro acc C H' s5 I5 q5 ⟨m,hn⟩ c1 c2 c3 c4 c5 c6;show wpAny _ _ (assign (.Name y py) X.env (.ref acc)) _ _ _;refine wpAny_assign_Name (Vs (X:=X.wsh z) I5 hN hi' (.inl hy) (v:= .ref acc) rfl (fun s6 I6 ⟨a,hsb,ha⟩=> ?_) (.inr hy));have ha' :a=X.env.locals\/X.env.cells.lookup y=some a:=ha;have hac:C≠a:=by
   rcases ha' with rfl | ha'
   ·exact c2
   ·exact fun z=>c4 y a ha' z.symm
  refine⟨m,hn.sameBut hsb hac,fun h' hs' =>⟨_,H',I6.turned (t' :=s6.toks) (it:=C) (fun b o hb e=>(hs'.2 b hb).trans e) c1 c2 (.inr c3) c4 c5,q5⟩⟩
end
def qM(K:W.Frag)(g:List D ->(List D ->Prop) ->Prop):List V ->Hp ->VK ->Prop:=fun vs H Q=>∃F ds P,Same F H/\ak K F ds vs/\g ds P/\∀es us l,ak K F es us ->H l=none ->P es ->Q (.ref l) (upd H l (.lst us))
section
variable{X:Cx}{F0 H0:Hp}{a b e:Expr}{es:List Expr}{pos p p2:Pos}{ta tb te:aG}{t:aZ}{x:Str}
def ur(g:List D ->(List D ->Prop) ->Prop)(t:aZ):aZ:=fun Γ P E=>t Γ (fun ds Γ1=>g ds fun es=>P es Γ1) E
theorem XC{K:W.Frag}{g:List D ->(List D ->Prop) ->Prop}{E:XW}{σ:St}{H:Hp}{Q:VK}(h:WR K F0 H0 (ur g t) E σ H Q):Ds (qM K g) (Ef K F0 H0 t E) σ H Q:=by
 obtain⟨F,Γ,P,R,h,k⟩:=h;refine⟨F,Γ,_,R,h,fun ds Γ1 F1 H1 vs R1 s1 r1 h1=>⟨F1,ds,_,R1.g,r1,h1,fun es us l r hl hp=> ?_⟩⟩;obtain⟨R2,e1,e2,e3,ap⟩:=yd R1 hl r;exact k es Γ1 F1 _ l us R2 s1 e1 e2 e3 r ap hp
theorem zv7{id:String}{g:List D ->(List D ->Prop) ->Prop}(hc:∀z,cg (X.wsh z) (.builtin id) (qM X.K g))(hg:Gl X x)(hm:X.mg x=none)(hv:bootBuiltins x=some (.builtin id))(ha:QA X F0 H0 (e::es) t)(hn:x≠ "__name__" :=by decide)(hdb:(x==("__debug__" :Str))=false:=by decide)
  (he:starEach (e::es) X.env=(false,eval e X.env)::starEach es X.env:=by rfl) (hpl:(backTo pos (starEach es X.env)).any (·.1)=false:=by rfl):QF X F0 H0 (.Call (.Name x p) (e::es) [] pos) (ur g t):=fun z E cx=>
 jg (M9 (X:=X.wsh z) (hc z) hg hm hv (ha z E cx) hn hdb he hpl) fun _ _ _ h=>XC h
theorem Qn{T:String}{g:List D ->(List D ->Prop) ->Prop}(hc:∀z,cg (X.wsh z) (.type T) (qM X.K g))(hg:Gl X x)(hm:X.mg x=none)(hv:bootBuiltins x=some (.type T))(ha:QA X F0 H0 (e::es) t)(hn:x≠ "__name__" :=by decide)(hdb:(x==("__debug__" :Str))=false:=by decide)
  (he:starEach (e::es) X.env=(false,eval e X.env)::starEach es X.env:=by rfl) (hpl:(backTo pos (starEach es X.env)).any (·.1)=false:=by rfl):QF X F0 H0 (.Call (.Name x p) (e::es) [] pos) (ur g t):=fun z E cx=>
 jg (Nf (X:=X.wsh z) (hc z) hg hm hv (ha z E cx) hn hdb he hpl) fun _ _ _ h=>XC h
theorem Qo{T:String}{g:List D ->(D ->Prop) ->Prop}(hc:∀z,cg (X.wsh z) (.type T) (mX X.K g))(hg:Gl X x)(hm:X.mg x=none)(hv:bootBuiltins x=some (.type T))(ha:QA X F0 H0 (e::es) t)(hn:x≠ "__name__" :=by decide)(hdb:(x==("__debug__" :Str))=false:=by decide)
  (he:starEach (e::es) X.env=(false,eval e X.env)::starEach es X.env:=by rfl) (hpl:(backTo pos (starEach es X.env)).any (·.1)=false:=by rfl):QE X F0 H0 (.Call (.Name x p) (e::es) [] pos) (j8 g t):=fun z E cx=>
 jg (Nf (X:=X.wsh z) (hc z) hg hm hv (ha z E cx) hn hdb he hpl) fun _ _ _ h=>Xi h
end
def Fi:List D ->(List D ->Prop) ->Prop:=fun ds P=>match ds with | [.lst xs]=>P xs | [.tup xs]=>P xs | _=>False
theorem XD:cg X (.type "list") (qM X.K Fi):=by
 rintro pins s σ H xs us Q I r ⟨F,ds,P,sF,rs,h,k⟩;unfold Fi at h;split at h
 ·unfold ak ak Rep at rs;obtain⟨v,_,rfl,⟨p,vs,rfl,hq,rs⟩,rfl⟩:=rs;exact Wk pins s σ H _ us Q I r ⟨p,vs,rfl,.inl (sF.seq hq),fun l hl=>k _ _ l rs hl h⟩
 ·unfold ak ak Rep at rs;obtain⟨v,_,rfl,⟨p,vs,rfl,hq,rs⟩,rfl⟩:=rs;exact Wk pins s σ H _ us Q I r ⟨p,vs,rfl,.inr (j4 sF hq),fun l hl=>k _ _ l rs hl h⟩
 ·exact h.elim
def z15:List D ->(D ->Prop) ->Prop:=fun ds P=>match ds with | [.lst xs]=>P (.tup xs) | [.tup xs]=>P (.tup xs) | _=>False
def cutD(xs:List D)(lo hi:Option Int):List D:=(xs.drop (HT.sIx xs.length 0 lo)).take (HT.sIx xs.length xs.length hi - HT.sIx xs.length 0 lo)
theorem zxh{K:W.Frag}{F:Hp}{ds:List D}{vs:List V}(r:ak K F ds vs)(lo hi:Option Int):ak K F (cutD ds lo hi) (o9 vs lo hi):=by
 unfold cutD o9;rw[fY r];exact WD _ (WK _ r)
abbrev uw:=G2 ->(Option Int ->G2 ->Prop) ->XW ->Prop
def upO(K:W.Frag)(F0 H0:Hp)(t:uw)(E:XW):TO:=fun σ H Q=>∃F Γ P,SR K F0 H0 F H σ Γ/\t Γ P E/\∀o Γ' F' H',SR K F0 H0 F' H' σ Γ' ->Same F F' ->P o Γ' ->Q o H'
def QO(X:Cx)(F0 H0:Hp)(e:Option Expr)(t:uw):Prop:=∀z E,Ctx (X.wsh z) F0 H0 E ->PO (X.wsh z) e (upO X.K F0 H0 t E)
theorem XF(h:PO X e t)(hi:∀σ H Q,t' σ H Q ->t σ H Q):PO X e t' :=fun pins s σ H Q I q=>h pins s σ H Q I (hi _ _ _ q)
def Ba:uw:=fun Γ P _=>P none Γ
def Bb(te:aG):uw:=fun Γ P E=>te Γ (fun d Γ1=>match d with | .int i=>P (some i) Γ1 | _=>False) E
section
variable{X:Cx}{F0 H0:Hp}{a b e:Expr}{es:List Expr}{pos p p2:Pos}{ta tb te:aG}{t:aZ}{x:Str}{lo hi:Option Expr}{tl th:uw}
theorem JF:QO X F0 H0 none Ba:=fun z E cx=>XF z03 fun σ H Q hq1=>by obtain⟨F,Γ,P,R,h,k⟩:=hq1;exact k _ _ _ _ R (.refl _) h
theorem JG(h:QE X F0 H0 e te):QO X F0 H0 (some e) (Bb te):=fun z E cx=>XF (z1i (h z E cx)) fun σ H Q hq2=>by obtain⟨F,Γ,P,R,h,k⟩:=hq2;exact⟨F,Γ,_,R,h,fun d Γ1 F1 H1 v R1 s1 r q=>by
 cases d with
 | int i=>unfold Rep at r;exact⟨i,r,k _ _ _ _ R1 s1 q⟩
 | _=>exact False.elim q⟩
def Bc(te:aG)(tl th:uw):aZ:=fun Γ P E=>te Γ (fun d Γ1=>tl Γ1 (fun l Γ2=>th Γ2 (fun u Γ3=>match d with | .lst xs=>P (cutD xs l u) Γ3 | _=>False) E) E) E
theorem JH(he:QE X F0 H0 e te)(hl:QO X F0 H0 lo tl)(hh:QO X F0 H0 hi th):QF X F0 H0 (.Subscript e (.Slice lo hi none p2) pos) (Bc te tl th):=fun z E cx=>
 jg (zyi z1g (he z E cx) (hl z E cx) (hh z E cx)) fun σ H Q qJ=>by obtain⟨F,Γ,P,R,h,k⟩:=qJ;exact⟨F,Γ,_,R,h,fun d Γ1 F1 H1 v R1 s1 r1 h1=>⟨F1,Γ1,_,R1,h1,fun l Γ2 F2 H2 R2 s2 h2=>⟨F2,Γ2,_,R2,h2,fun u Γ3 F3 H3 R3 s3 h3=>by
  cases d with
  | lst xs=>
   have r3:=r1.up (s2.trans s3);unfold Rep at r3;obtain⟨a,vs,rfl,hq,rs⟩:=r3;refine⟨a,vs,rfl,R3.g.seq hq,fun p hp=> ?_⟩;have rc:=zxh rs l u;obtain⟨R4,e1,e2,e3,ap⟩:=yd R3 hp rc;exact k _ Γ3 F3 _ p _ R4 (s1.trans (s2.trans s3)) e1 e2 e3 rc ap h3
  | _=>exact False.elim h3⟩⟩⟩
def Qp(te:aG):aZ:=fun Γ P E=>te Γ (fun d Γ1=>match d with | .lst xs=>P xs.reverse Γ1 | _=>False) E
end
section
variable{X:Cx}
theorem XH{A:Around}(h:A.handled=none):A.in1.handled=none:=h
theorem Qq(I:Inv X pins σ H s)(k:∀b o,s.heap.get? b=some o ->h'.get? b=some o)(r:RelV v u)(q:Q v H):EP X pins σ Q u {s with heap:=h',toks:=tk}:=⟨v,H,I.kept k,r,q⟩
def fV:List D ->Option (List Int)
 | []=>some []
 | .int i::r=>(fV r).map (i:: ·)
 | _::_=>none
def nY:List D ->Option (List Bool)
 | []=>some []
 | .bl i::r=>(nY r).map (i:: ·)
 | _::_=>none
theorem Qs{K:W.Frag}{F:Hp}:∀{ds:List D} {vs:List V} {ns:List Int},ak K F ds vs ->fV ds=some ns ->vs=ns.map .int
 | [],vs,ns,r,h=>by unfold ak at r;cases h;subst r;rfl
 | .int i::ds,vs,ns,r,h=>by
  unfold ak Rep at r;obtain⟨v,us,rfl,rfl,r⟩:=r;unfold fV at h;cases q:fV ds with
  | none=>rw[q] at h;cases h
  | some ms=>
   rw[q] at h;cases h;rw[Qs r q];rfl
 | .non::_,_,_,_,h=>by cases h
 | .bl _::_,_,_,_,h=>by cases h
 | .str _::_,_,_,_,h=>by cases h
 | .tup _::_,_,_,_,h=>by cases h
 | .lst _::_,_,_,_,h=>by cases h
 | .exc _::_,_,_,_,h=>by cases h
 | .ptr _::_,_,_,_,h=>by cases h
 | .obj _ _ _::_,_,_,_,h=>by cases h
 | .dic _ _::_,_,_,_,h=>by cases h
 | .dG _ _::_,_,_,_,h=>by cases h
 | .nO _ _::_,_,_,_,h=>by cases h
theorem XJ{K:W.Frag}{F:Hp}:∀{ds:List D} {vs:List V} {ns:List Bool},ak K F ds vs ->nY ds=some ns ->vs=ns.map .bl
 | [],vs,ns,r,h=>by unfold ak at r;cases h;subst r;rfl
 | .bl i::ds,vs,ns,r,h=>by
  unfold ak Rep at r;obtain⟨v,us,rfl,rfl,r⟩:=r;unfold nY at h;cases q:nY ds with
  | none=>rw[q] at h;cases h
  | some ms=>
   rw[q] at h;cases h;rw[XJ r q];rfl
 | .non::_,_,_,_,h=>by cases h
 | .int _::_,_,_,_,h=>by cases h
 | .str _::_,_,_,_,h=>by cases h
 | .tup _::_,_,_,_,h=>by cases h
 | .lst _::_,_,_,_,h=>by cases h
 | .exc _::_,_,_,_,h=>by cases h
 | .ptr _::_,_,_,_,h=>by cases h
 | .obj _ _ _::_,_,_,_,h=>by cases h
 | .dic _ _::_,_,_,_,h=>by cases h
 | .dG _ _::_,_,_,_,h=>by cases h
 | .nO _ _::_,_,_,_,h=>by cases h
theorem XM(ns:List Int)(f:Nat ->Int)(h:∀i,i<ns.length ->f i=ns.getD i 0):PySem.preSum f ns.length=ns.sum:=by
 have key:∀k,k<=ns.length ->PySem.preSum f k=(ns.take k).sum:=by
  intro k;induction k with
  | zero=>intro _;rfl
  | succ k ih=>
   intro hk;show PySem.preSum f k+f k=_;rw[ih (by omega),h k (by omega),List.take_add_one,List.sum_append,List.getD_eq_getElem?_getD,List.getElem?_eq_getElem (by omega)]
   simp
 rw[key _ (Nat.le_refl _),List.take_length]
def JK:List D ->(D ->Prop) ->Prop:=fun ds P=>match ds with | [.lst xs]=>∃ns,fV xs=some ns/\P (.int ns.sum) | _=>False
theorem XQ(hc:X.calm=true):cg X (.builtin "sum") (mX X.K JK):=by
 rintro pins s σ H xs us Q I r ⟨F,ds,P,sF,rs,h,k⟩;unfold JK at h;split at h
 ·unfold ak ak Rep at rs;obtain⟨v,_,rfl,⟨p,vs,rfl,hq,rs⟩,rfl⟩:=rs;obtain⟨ns,hns,h⟩:=h;obtain rfl:=Qs rs hns;obtain⟨u,rfl,rx⟩:=vals1 r;cases rx;obtain⟨its,rv,pl,hz⟩:=I.list (sF.seq hq);have hl:=rv.length;rw[List.length_map] at hl;refine call_sum_walkAnyS (wpAny_pyIter_list pl.isList ?_);have JL:p<s.heap.objs.size:=by obtain⟨o,n,e,_⟩:=pl;exact zJ e
  refine⟨s.heap.objs.size,_,_,_,_,_,_,fun i=>ns.getD i 0,rfl,(Walks.list (XH (I.ok.hd hc)) s.heap.objs.size p (zL JL) its.toArray).toS,⟨⟨_,z9 _ rfl,rfl,rfl⟩,?_⟩,?_,?_,?_⟩
  ·obtain⟨o,n,e,hcl,_,hd⟩:=pl;exact⟨o,z8 _ e,hcl,n,hd⟩
  ·intro b hb;rw[Heap.size_push];rcases zV.mp hb with rfl | hb
   ·exact Nat.lt_succ_self _
   ·rcases zV.mp hb with rfl | hb
    ·exact Nat.lt_succ_of_lt JL
    ·cases hb
  ·intro i v hv;have hv' :its[i]?=some v:=by simpa using hv
   have hi:i<ns.length:=by
    have:=(zW.mp hv').1;omega
   obtain⟨u,hu,ru⟩:=rv.get (i:=i) (x:= .int (ns.getD i 0)) (by rw[List.getElem?_map,List.getD_eq_getElem?_getD,List.getElem?_eq_getElem hi];rfl)
   rw[hv'] at hu;cases hu;exact ru
  ·intro s' t' mv;rw[show its.toArray.size=ns.length by simp [hl],XM ns _ (fun i _=>rfl)]
   obtain⟨h',g',d',tk',os'⟩:=s';have e1:=mv.gens;have e2:=mv.drawn;have e3:=mv.os;dsimp only at e1 e2 e3;subst e1 e2 e3;refine Qq (s:=s) (v:= .int ns.sum) I (fun b o e=>mv.heap b o (fun z=> ?_) (z8 _ e)) ⟨_,rfl⟩ (k _ _ F H (Gr.refl sF) (by unfold Rep;rfl) h)
   rcases zV.mp z with rfl | z
   ·exact absurd (zJ e) (yX _)
   ·cases z
 ·exact h.elim
theorem zyf(pl:PlainL h p its):(h.push {cls:= .type "list_iterator",data:= .fields #[.ref p,rawInt 0]}).IsListIter h.objs.size p 0/\ (h.push {cls:= .type "list_iterator",data:= .fields #[.ref p,rawInt 0]}).IsList p its:=by
 refine⟨⟨_,z9 _ rfl,rfl,rfl⟩,?_⟩;obtain⟨o,n,e,hcl,_,hd⟩:=pl;exact⟨o,z8 _ e,hcl,n,hd⟩
theorem zsn(bs:List Bool):(List.range bs.length).any (fun i=>bs.getD i false)=bs.any id:=by
 rw[Bool.eq_iff_iff];simp only [List.any_eq_true,List.mem_range,id];constructor
 ·rintro⟨i,hi,e⟩;rw[List.getD_eq_getElem?_getD,List.getElem?_eq_getElem hi] at e;exact⟨_,yZ hi,e⟩
 ·rintro⟨b,hb,e⟩;obtain⟨i,hi,rfl⟩:=List.mem_iff_getElem.mp hb;exact⟨i,hi,by rw[List.getD_eq_getElem?_getD,List.getElem?_eq_getElem hi];exact e⟩
def Qt:List D ->(D ->Prop) ->Prop:=fun ds P=>match ds with | [.lst xs]=>∃bs,nY xs=some bs/\P (.bl (bs.any id)) | _=>False
def z6k:List D ->(D ->Prop) ->Prop:=fun ds P=>match ds with | [.lst xs]=>∃bs,nY xs=some bs/\P (.bl (bs.all id)) | _=>False
theorem z2u{bs:List Bool}{its:List Value}(rv:Vals (bs.map .bl) its){i:Nat}{v:Value}(hv:its.toArray[i]?=some v):v= .bool (bs.getD i false):=by
 have hl:=rv.length;rw[List.length_map] at hl;have hv' :its[i]?=some v:=by simpa using hv
 have hi:i<bs.length:=by
  have:=(zW.mp hv').1;omega
 obtain⟨u,hu,ru⟩:=rv.get (i:=i) (x:= .bl (bs.getD i false)) (by rw[List.getElem?_map,List.getD_eq_getElem?_getD,List.getElem?_eq_getElem hi];rfl)
 rw[hv'] at hu;cases hu;exact ru
theorem z58(hc:X.calm=true):cg X (.builtin "any") (mX X.K Qt):=by
 rintro pins s σ H xs us Q I r ⟨F,ds,P,sF,rs,h,k⟩;unfold Qt at h;split at h
 ·unfold ak ak Rep at rs;obtain⟨v,_,rfl,⟨p,vs,rfl,hq,rs⟩,rfl⟩:=rs;obtain⟨bs,hbs,h⟩:=h;obtain rfl:=XJ rs hbs;obtain⟨u,rfl,rx⟩:=vals1 r;cases rx;obtain⟨its,rv,pl,hz⟩:=I.list (sF.seq hq);have hl:=rv.length;rw[List.length_map] at hl;refine call_any_walk (wpAny_pyIter_list pl.isList ?_);have JL:p<s.heap.objs.size:=by obtain⟨o,n,e,_⟩:=pl;exact zJ e
  refine⟨s.heap.objs.size,_,_,_,_,_,fun i=>bs.getD i false,rfl,Walks.list (XH (I.ok.hd hc)) s.heap.objs.size p (zL JL) its.toArray,zyf pl,fun i v s' Q' E' hv hQ=> ?_,fun h' tk kp=> ?_⟩
  ·rw[z2u rv hv];exact wpAny_truthy_bool hQ
  ·rw[show its.toArray.size=bs.length by simp [hl],zsn]
   refine Qq (s:=s) (v:= .bl (bs.any id)) I (fun b o e=>kp b o (fun z=> ?_) (z8 _ e)) rfl (k _ _ F H (Gr.refl sF) (by unfold Rep;rfl) h)
   rcases zV.mp z with rfl | z
   ·exact absurd (zJ e) (yX _)
   ·cases z
 ·exact h.elim
def z6i:List D ->(D ->Prop) ->Prop:=fun ds P=>match ds with | [.lst xs]=>∃ns m,fV xs=some ns/\m∈ns/\ (∀i∈ns,i<=m)/\P (.int m) | _=>False
def z6h:List D ->(D ->Prop) ->Prop:=fun ds P=>match ds with | [.lst xs]=>∃ns m,fV xs=some ns/\m∈ns/\ (∀i∈ns,m<=i)/\P (.int m) | _=>False
end
def Fj:Slot ->Slot | .ow ds=> .pu (.lst ds) | .tr _ t=> .pu (toD t) | s=>s
def jq(Γ:G2):G2:=Γ.map Fj
def mZ(Γ:G2)(σ:St)(b:Addr):Prop:=∃j,iT Γ σ j b
open Classical in
theorem zxi{K:W.Frag}{F0 H0 F H:Hp}{σ:St}{Γ:G2}(R:SR K F0 H0 F H σ Γ):∃F1,Same F F1/\SR K F1 H F1 H σ (jq Γ)/\ (∀b,F b=none ->¬mZ Γ σ b ->F1 b=none)/\∀b,mZ Γ σ b ->F b=none/\∃u,F1 b=some u/\LD u:=by
 let F1:Hp:=fun b=>if (F b).isSome then F b else if mZ Γ σ b then H b else none
 have s1:Same F F1:=fun b u e=>by show(if _ then _ else _)=_;rw[if_pos (by rw[e];rfl)];exact e
 have s2:Same F1 H:=fun b u e=>by
  have e' :(if (F b).isSome then F b else if mZ Γ σ b then H b else none)=some u:=e;split at e'
  ·exact R.g b u e'
  ·split at e'
   ·exact e'
   ·cases e'
 have at1:∀b u,F b=none ->mZ Γ σ b ->H b=some u ->F1 b=some u:=fun b u h1 h2 h3=>by
  show(if (F b).isSome then F b else if mZ Γ σ b then H b else none)=_;rw[if_neg (by rw[h1];exact Bool.false_ne_true),if_pos h2]
  exact h3
 have yw:∀(i:Nat) s o a,(jq Γ)[i]?=some s ->¬dY s o a:=fun i s o a e=>by
  unfold jq at e;rw[List.getElem?_map] at e;cases q:Γ[i]? with
  | none=>rw[q] at e;cases e
  | some t=>
   rw[q] at e;cases t<;>(cases e;exact fun h=>h)
 have own:∀b,mZ Γ σ b ->F b=none/\∃u,F1 b=some u/\LD u:=fun b hb=>by
  obtain⟨j,s,o,e1,e2,hs⟩:=id hb;obtain⟨o',e3,r⟩:=R.sl j _ e1;rw[e2] at e3;cases e3;obtain⟨h1,_,u,h2,ld⟩:=ug r hs;exact⟨h1,u,at1 _ _ h1 hb h2,ld⟩
 refine⟨F1,s1,⟨Gr.refl s2,by rw[jq,List.length_map];exact R.len,fun i s e=> ?_,fun i j a ⟨s,o,e,_,h⟩=>absurd h (yw i s o a e)⟩,fun b hb hn=> ?_,own⟩
 ·unfold jq at e;rw[List.getElem?_map] at e;cases q:Γ[i]? with
  | none=>rw[q] at e;cases e
  | some sl=>
   rw[q] at e;obtain⟨o,e1,r⟩:=R.sl i sl q;refine⟨o,e1,?_⟩;have mine:∀b u,dY sl o b ->H b=some u ->F1 b=some u:=fun b u hb hu=>at1 b u (ug r hb).1 ⟨i,sl,o,q,e1,hb⟩ hu;cases sl with
   | no=>cases e;trivial
   | pu d=>cases e;obtain⟨v,rfl,rv⟩:=r;exact⟨v,rfl,rv.up s1⟩
   | ow ds=>
    cases e;obtain⟨a,vs,rfl,h1,h2,h3,rs⟩:=r;refine⟨.ref a,rfl,?_⟩;unfold Rep;exact⟨a,vs,rfl,.inl (.inl (mine a _ rfl h1)),rs.up s1⟩
   | tr as t=>
    cases e;obtain⟨v,rfl,nd,h1,rv⟩:=r;exact⟨v,rfl,TR.rep s1 t v as (fun a ha u hu=>mine a u ha hu) rv⟩
 ·show(if (F b).isSome then F b else if mZ Γ σ b then H b else none)=none;rw[if_neg (by rw[hb];exact Bool.false_ne_true),if_neg hn]
theorem z18{K:W.Frag}{F0 H0 F H:Hp}{σ:St}{Γ:G2}(R:SR K F0 H0 F H σ Γ):∃F1,Same F F1/\SR K F1 H F1 H σ (jq Γ):=by
 obtain⟨F1,s1,R1,_⟩:=zxi R;exact⟨F1,s1,R1⟩
theorem zsv{K:W.Frag}{F0 H0 F H H' :Hp}{σ:St}{Γ:G2}(R:SR K F0 H0 F H σ Γ)(s:Same H H'):SR K F0 H0 F H' σ Γ:=by
 refine R.grow ⟨.refl _,fun b u e=>s b u (R.g b u e),s,fun b o e n=>by rw[e] at n;cases n⟩
def XR:D ->Prop | .non=>True | .bl _=>True | .int _=>True | .str _=>True | _=>False
theorem z4c{K:W.Frag}{F F' :Hp}{d:D}{v:V}(h:XR d)(r:Rep K F d v):Rep K F' d v:=by
 cases d with
 | non=>unfold Rep at r⊢;exact r
 | bl=>unfold Rep at r⊢;exact r
 | int=>unfold Rep at r⊢;exact r
 | str=>unfold Rep at r⊢;exact r
 | _=>exact h.elim
def jF(te:aG):aG:=fun Γ P _=>te (jq Γ) (fun d _=>XR d/\P d Γ) j7
def yx(t:TT2):TT2:=fun Γ P _=>t (jq Γ) (fun b _=>P b Γ) j7
section
variable{X:Cx}{F0 H0:Hp}{e:Expr}{te:aG}{tt:TT2}
theorem zxk{E:XW}{F1 H1:Hp}(cx:Ctx X F0 H0 E):Ctx X F1 H1 j7:=
 ⟨fun _ _ _ _ _ _ _ _ _ _ h=>by obtain⟨_,_,_,_,_,_,_,_,_,_,_,_,_,_,_,_,h,_⟩:=h;exact h.elim,cx.po⟩
theorem Bd(h:∀F0 H0,QE X F0 H0 e te):QE X F0 H0 e (jF te):=fun z E cx=>by
 rintro pins s σ H Q I ⟨F,Γ,P,R,q,k⟩;obtain⟨F1,s1,R1⟩:=z18 R;exact h F1 H z j7 (zxk cx) pins s σ H Q I ⟨F1,jq Γ,_,R1,q,fun d Γ' F' H' v R' s' r hp=>k d Γ F H' v (zsv R R'.gr.h) (.refl _) (z4c hp.1 r) hp.2⟩
def Qu(i:Nat)(te:aG):aG:=fun Γ P E=>(∃xs,Γ[i]?=some (.ow xs))/\te Γ (fun k Γ1=>match k,Γ1[i]? with | .int k,some (.ow ds)=>∃d,jE ds k=some d/\P d Γ1 | _,_=>False) E
end
def Qw(X:Cx)(id:String)(g:List D ->List D ->(List D ->Prop) ->Prop):Prop:=
 ∀(pins:bA) (s:Shared) (σ:St) (F H:Hp) (l:Addr) (vs args:List V) (xs ds:List D) (us:List Value) (P:List D ->Prop) (Q:VK),Inv X pins σ H s ->H l=some (.lst vs) ->Same F H ->ak X.K F xs vs ->ak X.K F ds args ->Vals args us ->g xs ds P ->
  (∀ys ws,ak X.K F ys ws ->P ys ->Q .non (upd H l (.lst ws))) ->wpAny (model X.prog X.w) X.A (call (.builtin id) (.ref l::us)) (EP X pins σ Q) X.xe s
def yC:List D ->List D ->(List D ->Prop) ->Prop:=fun xs ds P=>match ds with | [d]=>xs.length<sizeLine/\P (xs++ [d]) | _=>False
def Qx(xs:List D)(k:Nat)(d:D):List D:=xs.take k++d::xs.drop k
def zwj:List D ->List D ->(List D ->Prop) ->Prop:=fun xs ds P=>match ds with | [.int k,d]=>0<=k/\k<=xs.length/\xs.length<sizeLine/\P (Qx xs k.toNat d) | _=>False
def Qy:List D ->List D ->(List D ->Prop) ->Prop:=fun xs ds P=>match ds with | [.lst ys]=>xs.length+ys.length<=sizeLine/\P (xs++ys) | _=>False
def z29:List D ->List D ->(List D ->Prop) ->Prop:=fun xs ds P=>match ds with | []=>P xs.reverse | _=>False
def z59:List D ->List D ->(List D ->Prop) ->Prop:=fun xs ds P=>match ds with | []=>P [] | _=>False
section
variable{X:Cx}
theorem JM:Qw X "list.append" yC:=by
 intro pins s σ F H l vs args xs ds us P Q I hl sF rs ra rv h k;unfold yC at h;split at h
 ·unfold ak ak at ra;obtain⟨v,_,rfl,rd,rfl⟩:=ra;exact Wl pins s σ H (.ref l) [v] (.ref l) us Q I rfl rv ⟨l,vs,v,rfl,rfl,hl,by rw[<- fY rs];exact h.1,k _ _ (xV rs (DQ rd)) h.2⟩
 ·exact h.elim
end
section
variable{X:Cx}{F0 H0:Hp}{x name:Str}{apos cpos npos pos:Pos}{e:Expr}{es:List Expr}{id:String}{i:Nat}{t:aZ}{g:List D ->List D ->(List D ->Prop) ->Prop}
def yD(i:Nat)(g:List D ->List D ->(List D ->Prop) ->Prop)(t:aZ):au:=fun D Γ E=>(∃xs,Γ[i]?=some (.ow xs))/\t Γ (fun ds Γ1=>match Γ1[i]? with | some (.ow xs)=>g xs ds fun ys=>D.nx (Γ1.set i (.ow ys)) | _=>False) E
theorem zyp{z:WT}{σ:St}{F Fa H Ha:Hp}{Γ Γ1:G2}{xs:List D}{a:Addr}{D2:jm}{Dn:Ends}{vs args:List V}{ds:List D}(_R:SR X.K F0 H0 F H σ Γ)(R1:SR X.K F0 H0 Fa Ha σ Γ1)(s1:Same F Fa)(k:qG X.K F0 H0 F D2 Dn)(e1:σ[i]?=some (some (.ref a)))
  (q:match Γ1[i]? with | some (.ow xs)=>g xs ds fun ys=>D2.nx (Γ1.set i (.ow ys)) | _=>False):
  ∃vs xs P,Ha a=some (.lst vs)/\ak X.K Fa xs vs/\g xs ds P/\∀ys ws,ak X.K Fa ys ws ->P ys ->Dn.nx σ (upd Ha a (.lst ws)):=by
 split at q
 ·rename_i xs e;obtain⟨o,e2,a',vs,rfl,g1,g2,g3,r⟩:=R1.sl i _ e;rw[e1] at e2;cases e2;exact⟨vs,xs,_,g1,r,q,fun ys ws jD hp=>k.nx _ _ _ _ (R1.wr e e1 jD) s1 hp⟩
 ·exact q.elim
theorem Fl(hr:∀z,Qw (X.wsh z) id g)(slot:PySem.Slot "list" name id)(hty:typeOf (.builtin id)=pure (.type "method_descriptor"))(hN:X.N[i]?=some x)(hv:mU X.env.scope x)(ha:QA X F0 H0 (e::es) t)
  (hd:(x==("__debug__" :Str))=false:=by decide) (hcd:(x==("__classdict__" :Str))=false:=by decide)
  (hbase:attributeBase (.Name x npos) name X.env (eval (.Name x npos) X.env)=eval (.Name x npos) X.env:=by rfl)
  (hfew:((backTo cpos (starEach (e::es) X.env)).all (fun x=> !x.1)&&(backToKw cpos (keywordEach [] X.env)).all (fun x=>x.1.isSome)
   &&decide ((e::es).length+ ([]:List Keyword).length+ (if ([]:List Keyword).isEmpty then 0 else 1)<30))=true:=by rfl)
  (hline:(apos.endLine==cpos.line)=true:=by rfl) (hs:starEach (e::es) X.env=(false,eval e X.env)::starEach es X.env:=by rfl) (hplain:(backTo cpos (starEach es X.env)).any (·.1)=false:=by rfl)
  (hsw:swapsWith (.Call (.Attribute (.Name x npos) name apos) (e::es) [] cpos) none pos.line X.env=pure false:=by rfl):
  QS X F0 H0 (.Expr (.Call (.Attribute (.Name x npos) name apos) (e::es) [] cpos) pos) (yD i g t):=by
 intro z E cx;refine lY (z10 (X:=X.wsh z) (te:=fun σ H Q=>CN i σ H fun v H1=>Jh X.K "list" v H1/\Ef X.K F0 H0 t E σ H1 fun vs H2=>∃l xs ws F Pd ds,v= .ref l/\H2 l=some (.lst ws)/\Same F H2/\ak X.K F xs ws/\ak X.K F ds vs/\g xs ds Pd/\∀ys us,ak X.K F ys us ->Pd ys ->Q .non (upd H2 l (.lst us))) ?_ hsw) ?_
 ·refine z5r (X:=X.wsh z) (T:= "list") (id:=id) (r:=fun v vs H2 Q=>∃l xs ws F Pd ds,v= .ref l/\H2 l=some (.lst ws)/\Same F H2/\ak X.K F xs ws/\ak X.K F ds vs/\g xs ds Pd/\∀ys us,ak X.K F ys us ->Pd ys ->Q .non (upd H2 l (.lst us)))
   PySem.F.plainAttrs_list slot hty ?_ (o7 (X:=X.wsh z) (i:=i) hN hv hd hcd) (ha z E cx) hbase hfew hline hs hplain
  rintro pins s σ H x xs v us Q I rx rs ⟨l,ys,ws,Fz,Pd,ds,e1,h1,h2,h3,h4,h5,h6⟩;subst e1;cases rx;exact hr z pins s σ Fz H l ws xs ys ds us Pd Q I h1 h2 h3 h4 rs h5 h6
 ·rintro Dn σ H ⟨F,Γ,D2,R,⟨⟨xs,e0⟩,h⟩,k⟩;obtain⟨o,e1,a,vs,rfl,h1,h2,h3,r⟩:=R.sl i _ e0;refine⟨.ref a,e1,.inl ⟨rfl,vs,.inl (.inl h1)⟩,F,Γ,_,R,h,fun ds Γ1 F1 H1 us R1 s1 r1 q1=> ?_⟩;obtain⟨ws,ys,P,g1,g2,g3,g4⟩:=zyp (z:=z) (vs:=vs) (args:=us) (xs:=xs) R R1 s1 k e1 q1;exact⟨a,ys,ws,F1,P,ds,rfl,g1,R1.g,g2,r1,g3,g4⟩
end
end L3
namespace L3
open PySem PySem.Spec PyProof.Rows L2
section
variable{X:Cx}{F0 H0:Hp}{st:Stmt}{i:Nat}{t:aZ}
theorem Fo(h:QS X F0 H0 st (gZ i t)):QS X F0 H0 st (aO i (fO t)):=fun z E cx=>
 lY (h z E cx) fun Dn σ H hq1=>by
  obtain⟨F,Γ,D2,R,q,k⟩:=hq1;have key:(fun(ds:List D) (Γ1:G2)=>(match (Γ1.set i (.ow ds))[i]? with | some (.ow ds')=>D2.nx ((Γ1.set i (.ow ds)).set i (.pu (.lst ds'))) | _=>D2.nx (Γ1.set i (.ow ds))))=fun ds Γ1=>D2.nx (Γ1.set i (.pu (.lst ds))):=by
   funext ds Γ1
   by_cases hi:i<Γ1.length
   ·rw[List.getElem?_set_self hi];dsimp only;rw[List.set_set]
   ·rw[List.getElem?_eq_none (by simpa using hi)]
    dsimp only;rw[List.set_eq_of_length_le (by omega),List.set_eq_of_length_le (by omega)]
  refine⟨F,Γ,{D2 with nx:=fun Γ' =>match Γ'[i]? with | some (.ow ds)=>D2.nx (Γ'.set i (.pu (.lst ds))) | _=>D2.nx Γ'},R,?_,⟨fun Γ' F' H' σ' R' s' q' => ?_,k.bk,k.ct,k.rt,k.rf,k.rT,k.rm⟩⟩
  ·show t Γ _ E;dsimp only;rw[key];exact q
  ·dsimp only at q';split at q'
   ·rename_i ds e;obtain⟨a,F2,_,s2,R2,_⟩:=R'.frz e;exact k.nx _ _ _ _ R2 (s'.trans s2) q'
   ·exact k.nx _ _ _ _ R' s' q'
end
def pD(t u:aG):aZ:=fun Γ P E=>t Γ (fun d Γ1=>u Γ1 (fun d' Γ2=>match d,d' with | .lst xs,.lst ys=>xs.length+ys.length<=sizeLine/\P (xs++ys) Γ2 | _,_=>False) E) E
section
variable{X:Cx}{F0 H0:Hp}{a b c:Expr}{pos:Pos}{ta tb tc:aG}
theorem zum{M:Program}{w:World}{A:Around}{E:bH}{s:Shared}{l b:Addr}{vs ws:List Value}{Q:bH}(hl:s.heap.IsList l vs.toArray)(hb:s.heap.IsList b ws.toArray)
  (h:Q (.ref s.heap.objs.size) {s with heap:=s.heap.push {cls:= .type "list",data:= .seq (vs++ws).toArray}}) (hsz:vs.length+ws.length<=sizeLine):wpAny (model M w) A (binaryOp .Add (.ref l) (.ref b)) Q E s:=by
 obtain⟨⟨cls,dd,data,sl⟩,ho,hc,n,hd⟩:=id hl;obtain⟨⟨cls2,dd2,data2,sl2⟩,ho2,hc2,n2,hd2⟩:=id hb;simp only at hc hd hc2 hd2;subst hc hd hc2 hd2;have e:vs.toArray++ws.toArray=(vs++ws).toArray:=by simp
 refine concat_meets ⟨_,ho,rfl⟩ ⟨_,ho2,rfl⟩ noFill_list_add seq_list_add PySem.F.slot_list_add PySem.F.entry_list_add (PySem.F.args_list_add_2 _ _) (list_addW l b vs.toArray ws.toArray n n2 dd dd2 sl sl2 (by simpa using hsz)) ⟨ho,ho2,?_⟩
 rw[e];exact h
theorem Fp(ha:QE X F0 H0 a ta)(hb:QE X F0 H0 b tb):QF X F0 H0 (.BinOp a .Add b pos) (pD ta tb):=fun z E cx=>
 jg (VN (X:=X.wsh z) (r:=fun x y H Q=>∃p q xs ys,x= .ref p/\y= .ref q/\fL X.K H p xs/\fL X.K H q ys/\xs.length+ys.length<=sizeLine/\∀l,H l=none ->Q (.ref l) (upd H l (.lst (xs++ys)))) (by
  rintro pins s σ H x y v u Q I rx ry ⟨p,q,xs,ys,e1,e2,h1,h2,hz,k⟩;subst e1 e2;cases rx;cases ry;obtain⟨its,r,pl,_⟩:=I.list h1;obtain⟨its2,r2,pl2,_⟩:=I.list h2;have l1:=r.length;have l2:=r2.length;refine zum pl.isList pl2.isList ?_ (by omega)
  exact⟨.ref _,_,I.lnew (t' :=s.toks) (r.append r2) (by rw[List.length_append];omega),rfl,k _ I.fresh⟩) (ha z E cx) (hb z E cx)) fun σ H Q hq2=>by obtain⟨F,Γ,P,R,h,k⟩:=hq2;exact⟨F,Γ,_,R,h,fun d1 Γ1 F1 H1 v1 R1 s1 r1 h1=>⟨F1,Γ1,_,R1,h1,fun d2 Γ2 F2 H2 v2 R2 s2 r2 h2=>by
   cases d1 with
   | lst xs=>
    cases d2 with
    | lst ys=>
     have r1' :=r1.up s2;unfold Rep at r1' r2;obtain⟨p,vs,rfl,hq,rs⟩:=r1';obtain⟨q,ws,rfl,hq2,Bf⟩:=r2;refine⟨p,q,vs,ws,rfl,rfl,R2.g.seq hq,R2.g.seq hq2,by rw[<- fY rs,<- fY Bf];exact h2.1,fun l hl=> ?_⟩
     have ra:=xV rs Bf;obtain⟨R3,e1,e2,e3,ap⟩:=yd R2 hl ra;exact k _ Γ2 F2 _ l _ R3 (s1.trans s2) e1 e2 e3 ra ap h2.2
    | _=>exact False.elim h2
   | _=>exact False.elim h2⟩⟩
def sH:D ->Bool | .non=>true | .bl _=>true | .int _=>true | .str _=>true | _=>false
def JN:D ->D ->Bool
 | .non,.non=>true
 | .bl a,.bl b=>a==b
 | .bl a,.int b=>(if a then 1 else 0)==b
 | .int a,.bl b=>a==(if b then 1 else 0)
 | .int a,.int b=>a==b
 | .str a,.str b=>a==b
 | _,_=>false
def inD(x:D)(xs:List D):Bool:=xs.any fun y=>JN y x
def Fq(neg:Bool):D ->D ->(D ->Prop) ->Prop:=fun x y P=>match y with
 | .lst xs=>sH x=true/\xs.all sH=true/\P (.bl (if neg then !inD x xs else inD x xs))
 | .tup xs=>sH x=true/\xs.all sH=true/\P (.bl (if neg then !inD x xs else inD x xs))
 | _=>False
theorem yE{K:W.Frag}{F:Hp}{d:D}{v:V}(h:sH d=true)(r:Rep K F d v):gW v=true:=by
 cases d<;>first | (unfold Rep at r;subst r;rfl) | (exact absurd h zK)
theorem Qz{K:W.Frag}{F:Hp}{d e:D}{v u:V}(h:sH d=true)(h' :sH e=true)(r:Rep K F d v)(r' :Rep K F e u):uT v u=JN d e:=by
 cases d<;>first | (exact absurd h zK) | (unfold Rep at r;subst r;cases e<;>first | (exact absurd h' zK) | (unfold Rep at r';subst r';rfl))
theorem QB{K:W.Frag}{F:Hp}:∀{ds:List D} {vs:List V},ak K F ds vs ->ds.all sH=true ->vs.all gW=true
 | [],vs,r,_=>by unfold ak at r;subst r;rfl
 | d::ds,vs,r,h=>by
  unfold ak at r;obtain⟨v,us,rfl,r1,r2⟩:=r;rw[List.all_cons,Bool.and_eq_true] at h⊢;exact⟨yE h.1 r1,QB r2 h.2⟩
theorem yF{K:W.Frag}{F:Hp}{x:D}{u:V}(hx:sH x=true)(rx:Rep K F x u):∀{ds:List D} {vs:List V},ak K F ds vs ->ds.all sH=true ->inV u vs=inD x ds
 | [],vs,r,_=>by unfold ak at r;subst r;rfl
 | d::ds,vs,r,h=>by
  unfold ak at r;obtain⟨v,us,rfl,r1,r2⟩:=r;rw[List.all_cons,Bool.and_eq_true] at h;unfold inV inD;rw[List.any_cons,List.any_cons,Qz h.1 hx r1 rx];have:=yF hx rx r2 h.2;unfold inV inD at this;rw[this]
theorem Ft:gU X (compareOp .In) (nG X.K (Fq false)):=by
 rintro pins s σ H x y v u Q I rx ry ⟨F,d1,d2,P,sF,r1,r2,h,k⟩;unfold Fq at h;split at h
 ·unfold Rep at r2;obtain⟨p,vs,rfl,hq,rs⟩:=r2;obtain⟨h1,h2,h3⟩:=h;exact Wi pins s σ H x _ v u Q I rx ry ⟨p,vs,rfl,.inl (sF.seq hq),yE h1 r1,QB rs h2,k _ _ F H (Gr.refl sF) (by rw[yF h1 r1 rs h2];unfold Rep;rfl) h3⟩
 ·unfold Rep at r2;obtain⟨p,vs,rfl,hq,rs⟩:=r2;obtain⟨h1,h2,h3⟩:=h;exact Wi pins s σ H x _ v u Q I rx ry ⟨p,vs,rfl,.inr (j4 sF hq),yE h1 r1,QB rs h2,k _ _ F H (Gr.refl sF) (by rw[yF h1 r1 rs h2];unfold Rep;rfl) h3⟩
 ·exact h.elim
def yG(g g' :D ->D ->(D ->Prop) ->Prop)(ta tb tc:aG):aG:=fun Γ P E=>ta Γ (fun x Γ1=>tb Γ1 (fun y Γ2=>g x y fun r=>match r with
 | .bl k=>if k=true then tc Γ2 (fun w Γ3=>g' y w fun d=>P d Γ3) E else P (.bl false) Γ2
 | _=>False) E) E
end
section
variable{X:Cx}{F0 H0:Hp}{tg a b:Expr}{t:aZ}{p pc:Pos}
def aaL(t:aZ):aZ:=fun Γ P E=>t Γ (fun ds Γ1=>match ds with | [.int j]=>(-(2^62)<=j/\j<2^62)/\j.toNat<=sizeLine/\P ((List.range j.toNat).map fun(k:Nat)=> .int (0+k)) Γ1 | _=>False) E
def aaM(t:aZ):aZ:=fun Γ P E=>t Γ (fun ds Γ1=>match ds with | [.int i,.int j]=>(-(2^62)<=i/\i<2^62/\ -(2^62)<=j/\j<2^62)/\ (j - i).toNat<=sizeLine/\P ((List.range (j - i).toNat).map fun(k:Nat)=> .int (i+k)) Γ1 | _=>False) E
end
def z5c(sc Fe:Scope):Scope:={sc with names:=sc.names.map fun(n,k)=>if (k== .free&&Fe.kind== .function&&Fe.names.lookup n==some .cell) then(n,.cell) else(n,k)}
section
variable{X:Cx}{F0 H0:Hp}{x:Str}{pos:Pos}{d:D}
def Glb(K:W.Frag)(mg:Str ->Option Value)(x:Str)(d:D):Prop:=∃v u,mg x=some u/\RelV v u/\∀F,Rep K F d v
end
structure aaN (K:W.Frag) (x qual:Str) (st:Stmt) (f:Addr) (fd:FuncData) (dV:Value):Prop where
 ex:∃(oc:Value) (od:Option Addr) (kV doc pm:Value) (an:Option Addr) (cdv ct:Value) (osl:Array (Option Value)),
  fd=W.fnOf x qual (uX st) (rJ st) (bU st) dV kV doc pm an cdv ct/\K.lookup f=some ⟨oc,od,.func fd,osl⟩/\W.codeIn K cdv qual=true
 kp:W.keepIn K (.ref f)=true
section
variable{P:Program}{w:World}{K:W.Frag}{mg:Str ->Option Value}{base:Heap}
structure aaO (P:Program) (w:World) (K:W.Frag) (mg:Str ->Option Value) (base:Heap) (x:Str) (k:Nat) (ps:List Str) (sp:cD):Prop where
 ex:∃f fd,dX P w K mg base (gK P w) k f fd ps (jR K sp)/\mg x=some (.ref f)/\W.keepIn K (.ref f)=true/\Binds K fd ps []/\Binds K fd ps [.none]
end
def yH(sp:cD)(t:aZ):aG:=fun Γ P E=>t Γ (fun ds Γ1=>sp (ds++ [.non]) (fun d=>P d Γ1) fun C=>E Γ1 C) E
section
variable{X:Cx}{F0 H0:Hp}{e:Expr}{es:List Expr}{pos p:Pos}{x:Str}{ps:List Str}{k:Nat}{sp:cD}{t:aZ}
end
def VE(K:W.Frag)(C:Addr):Prop:=W.kitOne K (.ref C) (.type "ValueError")=some true
def QC(K:W.Frag)(ta:aG):aG:=fun Γ P E=>ta Γ (fun d Γ1=>match d with | .exc C0=>(rO K C0/\vf K C0/\VE K C0)/\P (.bl true) Γ1 | _=>False) E
def QD(K:W.Frag)(Cs:List Addr)(ta:aG):aG:=fun Γ P E=>ta Γ (fun d Γ1=>match d with | .exc C0=>(rO K C0/\vf K C0)/\P (.bl (Cs.any fun C=>mW K C0 C)) Γ1 | _=>False) E
def PCl(X:Cx)(es:List Expr)(Cs:List Addr):Prop:=∀z,PA (X.wsh z) es fun _ H Q=>Q (Cs.map V.ref) H
section
variable{X:Cx}{F0 H0:Hp}{a:Expr}{pos p pt:Pos}{ta:aG}{x:Str}{C:Addr}{es:List Expr}{Cs:List Addr}
end
theorem QH{X:Cx}{pins:bA}{σ:St}{H:Hp}{s:Shared}{h' :Heap}{t' :Nat}{fp:List Addr}(I:Inv X pins σ H s)(k:∀b o,b∉fp ->s.heap.get? b=some o ->h'.get? b=some o)(hf:∀b∈fp,gb X pins H b):Inv X pins σ H {s with heap:=h',toks:=t'}:=by
 have CK:∀b u,H b=some u ->b∉fp:=fun b u e z=>by rw[(hf b z).1] at e;cases e
 refine I.step (g' :=s.gens) (d' :=s.drawn) (ch:=fp) (fun b hb=> ?_) (fun b o _ _ hc e _=>k b o hc e) (fun b o _ _ hc e _=>⟨o.slots,k b o hc e⟩) (fun _ _ _ _ n=>n) (fun b o hc e=>⟨o,k b o hc e⟩) (fun _ _ e=>e) (fun _ _ _ e=>e) (fun b ps e=>⟨#[],by rw[e];simp⟩) (fun m hm=> ?_) (fun b u e=> ?_) I.bare
 ·obtain⟨f0,f1,f2,f3,f4,f5⟩:=hf b hb;exact⟨f3,f1,f4,f5⟩
 ·obtain⟨o,es,ep,ho,r⟩:=hm;exact⟨o,es,ep,k _ o (fun z=>(hf _ z).2.1 rfl) ho,r⟩
 ·refine(I.hok b u e).stay (fun c v hc q=>k c v ?_ q) (fun _ q=>q) fun _ _ q=>q;rcases hc with z | z
  ·rw[z];exact CK b u e
  ·exact CK c _ z
theorem QJ(h:gb X pins H b)(hb:b≠a):gb X pins (upd H a o) b:=⟨by rw[cQ hb];exact h.1,h.2⟩
theorem XS{X:Cx}{pins:bA}{σ:St}{H:Hp}{s:Shared}{h' :Heap}{t' :Nat}{fp:List Addr}{xs:List V}{its:List Value}(I:Inv X pins σ H s)(k:∀b o,b∉fp ->s.heap.get? b=some o ->h'.get? b=some o)
  (hlt:∀b∈fp,b<s.heap.objs.size) (ht:h'.get? s.heap.objs.size=some {cls:= .type "tuple",data:= .seq its.toArray}) (hv:Vals xs its) (hz:xs.length<=sizeLine) (hf:∀b∈fp,gb X pins H b):
  Inv X pins σ (upd H s.heap.objs.size (.tup xs)) {s with heap:=h',toks:=t'}:=by
 have I1:Inv X pins σ (upd H s.heap.objs.size (.tup xs)) {s with heap:=s.heap.push {cls:= .type "tuple",data:= .seq its.toArray},toks:=s.toks}:=
  I.laid (t' :=s.toks) (fun b o e=>z8 _ e) (zO _) (show bw X.prog X.w _ _ _ (.tup xs) from ⟨hz,its,hv,IsTup.new _ _⟩)
 refine QH (s:={s with heap:=s.heap.push {cls:= .type "tuple",data:= .seq its.toArray},toks:=s.toks}) (fp:=fp) I1 (fun b o hb e=> ?_) fun b hb=>QJ (hf b hb) (zL (hlt b hb));rcases Heap.get?_push_cases e with ⟨rfl,rfl⟩ | e
 ·exact ht
 ·exact k b o hb e
def Ite(K:W.Frag)(a:Addr):It:=
 ⟨fun i H=>∃xs x,fL K H a xs/\xs[i]?=some x,fun i H x H' =>∃b v,x= .ref b/\H b=none/\H' =upd H b (.tup [.int i,v])/\∀xs,fL K H a xs ->xs[i]?=some v,fun i H=>∃xs,fL K H a xs/\xs.length<=i⟩
theorem zu6{P:Program}{w:World}{K:W.Frag}{elts:List Expr}{x1}{pos:Pos}(a e it:Addr)(hne:e≠it):Turn P w K (.Tuple elts x1 pos) (Ite K a) [e,it] e (fun i h=>(∃old,IsEnum h e it (i:Int) old)/\h.IsListIter it a i) where
 mem:=by simp
 obj:=fun i h q b hb=>by
  obtain⟨⟨old,q⟩,st⟩:=q;rcases zV.mp hb with rfl | hb
  ·exact⟨_,q,fun v z=>by cases z⟩
  ·obtain rfl:b=it:=by simpa using hb
   obtain⟨o,e,c,d⟩:=st;exact⟨o,e,fun v z=>by rw[d] at z;cases z⟩
 keep:=fun i h h' q k=>by
  obtain⟨⟨old,q⟩,st⟩:=q;exact⟨⟨old,k e (by simp) _ q⟩,st.at fun o z=>k it (by simp) o z⟩
 item:=by
  intro X hP hw hK hc i pins s σ H E I hf q hg;obtain⟨⟨old,q⟩,st⟩:=q;subst hP hw hK;obtain⟨xs,x,hq,hx⟩:=hg;obtain⟨its,rv,p,hz⟩:=I.list hq;obtain⟨u,hu,ru⟩:=rv.get hx;have el:e<s.heap.objs.size:=zJ q;have il:it<s.heap.objs.size:=by obtain⟨o,z,_⟩:=st;exact zJ z
  refine wpAny_pyNext_enum_item q st p.isList (x:=u) (by simpa using hu) hne fun h1 eo st1 ht hs1 k1=> ?_
  refine⟨_,rfl,wpAny_letOwnedTupleGo_enum eo fun h2 e2 sb=> ?_⟩;have uz:Heap.SameBut e h1 h2:=sb;have I2:Inv X pins σ (upd H s.heap.objs.size (.tup [.int i,x])) {s with heap:=h2,toks:=s.toks+1}:=
   XS (fp:= [e,it]) (its:= [.int i s.toks,u]) I (fun b o hb z=>uz.extBut b o (fun y=>hb (by simp [y])) (k1 b o (fun y=>hb (by simp [y])) (fun y=>hb (by simp [y])) z))
    (fun b hb=>by
     rcases zV.mp hb with rfl | hb
     ·exact el
     ·obtain rfl:b=it:=by simpa using hb
      exact il)
    ((uz.2 _ (Nat.ne_of_gt el)).trans ht) (.cons ⟨_,rfl⟩ (.cons ru .nil)) (by show(2:Nat)<=sizeLine;decide) hf
  refine⟨.ref s.heap.objs.size,_,I2,rfl,⟨_,x,rfl,I.fresh,rfl,fun ys hy=>by rw[I.list_inj hy hq];exact hx⟩,⟨⟨u,?_⟩,(st1.extBut uz.extBut (Ne.symm hne))⟩,fun b hb=> ?_⟩
  ·have:((i+1:Nat):Int)=(i:Int)+1:=by omega
   rw[this];exact e2
  ·refine(QJ (hf b hb) ?_).1;rcases zV.mp hb with rfl | hb
   ·exact zL el
   ·obtain rfl:b=it:=by simpa using hb
    exact zL il
 done:=by
  intro X hP hw hK hc i pins s σ H E I hf q hg;obtain⟨⟨old,q⟩,st⟩:=q;subst hP hw hK;obtain⟨xs,hq,hx⟩:=hg;obtain⟨its,rv,p,hz⟩:=I.list hq;have hl:=rv.length;exact wpAny_pyNext_enum_end (I.ok.hd hc) q st p.isList (by simp;omega) fun h' eb=>⟨rfl,QH (t' :=s.toks) (fp:= [e,it]) I (fun b o hb z=>eb b o (fun y=>hb (by simp [y])) z) hf⟩
 self:=fun _ _ _ _ _ q h=>by
  obtain⟨⟨old,q⟩,st⟩:=q;exact wpAny_pyIter_enum q h
theorem zjb:bootBuiltins "enumerate" =some (.type "enumerate"):=by decide+kernel
def Fv(K:W.Frag)(ta:TA):TI:=fun σ H R=>ta σ H fun vs H1=>∃a xs,vs= [.ref a]/\fL K H1 a xs/\ (xs.length<=sizeLine ->R (Ite K a) H1)
theorem z0z{X:Cx}{a:Expr}{ta:TA}{p pos:Pos}{elts:List Expr}{x1}{pt:Pos}(hg:Gl X "enumerate")(hm:X.mg "enumerate" =none)(ha:PA X [a] ta)(hs:starEach [a] X.env=(false,eval a X.env)::starEach [] X.env:=by rfl):
  PI X (.Tuple elts x1 pt) (.Call (.Name "enumerate" p) [a] [] pos) (Fv X.K ta):=by
 intro pins s σ H R I h;refine Call_ (vP I hg hm zjb (PyProof.Rows.callWith_type1 (bD (ha pos pins s σ H _ I h) fun us s1 ⟨vs,H1,I1,r1,q1⟩=> ?_) hs rfl));obtain⟨l,xs,rfl,hq,q⟩:=q1;obtain⟨u,rfl,rx⟩:=vals1 r1;cases rx;obtain⟨its,rv,pl,hz⟩:=I1.list hq;refine call_enumerate_list pl.isList fun h' e1 st hsz kp=> ?_;refine wpAny_pyIter_enum (i:=0) e1 ⟨s1.heap.objs.size+1,[s1.heap.objs.size+1,s1.heap.objs.size],_,_,H1,rfl,I1.kept (t' :=s1.toks) kp,zu6 l _ _ (Nat.ne_of_gt (Nat.lt_succ_self _)),⟨⟨_,e1⟩,st⟩,fun b hb=> ?_,q hz⟩;have hb2:s1.heap.objs.size<=b:=by
  rcases zV.mp hb with rfl | hb
  ·exact Nat.le_succ _
  ·obtain rfl:b=s1.heap.objs.size:=by simpa using hb
   exact zO _
 exact I1.fpOk hb2 (I1.hok.fresh hb2)
def uD:Nat ->List D ->List D
 | _,[]=> []
 | k,x::r=> .tup [.int k,x]::uD (k+1) r
theorem QK:∀(k:Nat) (xs:List D),(uD k xs).length=xs.length
 | _,[]=>rfl
 | k,x::r=>by show(uD (k+1) r).length+1=r.length+1;rw[QK]
theorem QL:∀(k:Nat) (xs:List D) (i:Nat),(uD k xs)[i]?=(xs[i]?).map fun d=> .tup [.int (k+i:Nat),d]
 | _,[],_=>rfl
 | k,x::r,0=>rfl
 | k,x::r,i+1=>by
  show(uD (k+1) r)[i]?=_;rw[QL (k+1) r i,show k+1+i=k+ (i+1) by omega]
  rfl
def Fw(t:aZ):aZ:=fun Γ P E=>t Γ (fun ds Γ1=>match ds with | [.lst xs]=>P (uD 0 xs) Γ1 | _=>False) E
theorem zyl{K:W.Frag}{F:Hp}{a:Addr}{vs:List V}{xs:List D}(hq:fL K F a vs)(rs:ak K F xs vs)(hz:vs.length<=sizeLine):v7 K F yu (Ite K a) (uD 0 xs):=by
 have hl:=fY rs;refine⟨by rw[QK];omega,fun i H2 F2 s2 s3 _=>⟨fun e=>⟨vs,s3.seq (s2.seq hq),by rw[e,QK];omega⟩,fun d hd=> ?_⟩⟩
 rw[QL] at hd;cases hx:xs[i]? with
 | none=>rw[hx] at hd;cases hd
 | some x=>
  rw[hx] at hd;cases hd;obtain⟨v,hv,rv⟩:=nP rs hx;refine⟨⟨vs,v,s3.seq (s2.seq hq),hv⟩,fun y H' z=> ?_⟩;obtain⟨b,v2,rfl,hb,rfl,z⟩:=z;have:=z vs (s3.seq (s2.seq hq));rw[hv] at this;cases this;have gr:=Gr.laid (o:=HO.tup [.int i,v]) s3 hb;refine⟨_,gr,?_⟩;unfold Rep;refine⟨b,_,rfl,.inl (.inl jL),oU ?_ (oU ((rv.up s2).up gr.f) (by unfold ak;rfl))⟩
  unfold Rep;simp
section
variable{X:Cx}{F0 H0:Hp}{a b e tg:Expr}{es:List Expr}{pos p pt:Pos}{te:aG}{t:aZ}{g:jO}{tb:au}{elts:List Expr}
theorem X3{x1}(hc:X.calm=true)(hg:Gl X "enumerate")(hm:X.mg "enumerate" =none)(ha:QA X F0 H0 [a] t)(hs:starEach [a] X.env=(false,eval a X.env)::starEach [] X.env:=by rfl):
  QI X F0 H0 (.Tuple elts x1 pt) (.Call (.Name "enumerate" p) [a] [] pos) (Fw t):=fun z E cx=>Az (z0z (X:=X.wsh z) hg hm (ha z E cx) hs) fun σ H R hq2=>by obtain⟨F,Γ,P,S,q,k⟩:=hq2;exact⟨F,Γ,_,S,q,fun ds Γ1 F1 H1 vs R1 s1 r1 h1=>by
  unfold Fw at*;split at h1
  ·unfold ak ak Rep at r1;obtain⟨v,_,rfl,⟨l,us,rfl,hq,rs⟩,rfl⟩:=r1;exact⟨l,us,rfl,R1.g.seq hq,fun hz=>k _ Γ1 F1 H1 _ R1 s1 (zyl hq rs hz) h1⟩
  ·exact h1.elim⟩
end
def Bg:List D ->(D ->Prop) ->Prop:=fun ds P=>match ds with | [.bl b]=>P (.int (if b then 1 else 0)) | [.int i]=>P (.int i) | _=>False
theorem QM:cg X (.type "int") (mX X.K Bg):=by
 rintro pins s σ H xs us Q I r ⟨F,ds,P,sF,rs,h,k⟩;unfold Bg at h;split at h
 ·unfold ak ak Rep at rs;obtain⟨v,_,rfl,rfl,rfl⟩:=rs;obtain⟨u,rfl,rx⟩:=vals1 r;cases rx;exact call_int_bool ⟨.int _,H,I.tok _,⟨_,rfl⟩,k _ _ F H (Gr.refl sF) (by unfold Rep;rfl) h⟩
 ·unfold ak ak Rep at rs;obtain⟨v,_,rfl,rfl,rfl⟩:=rs;obtain⟨u,rfl,rx⟩:=vals1 r;obtain⟨t,rfl⟩:=rx;exact call_int_int ⟨.int _,H,I,⟨_,rfl⟩,k _ _ F H (Gr.refl sF) (by unfold Rep;rfl) h⟩
 ·exact h.elim
def zyb:List D ->(List D ->Prop) ->Prop:=fun ds P=>match ds with | [.lst xs]=>∃ns,fV xs=some ns/\ns.length<64/\∀ms:List Int,ms.Perm ns ->ms.Pairwise (· <= ·) ->P (ms.map .int) | _=>False
section
variable{prog:Program}{w:World}{A:Around}{E:bH}{s:Shared}
def cN(t:Bool)(h:Heap)(it l:Addr)(i:Nat):Prop:=match t with | false=>h.IsListIter it l i | true=>h.IsTupleIter it l i
def cY(t:Bool)(h:Heap)(l:Addr)(xs:Array Value):Prop:=match t with | false=>h.IsList l xs | true=>h.IsTuple l xs
theorem v8(x:cN t h it l i)(k:∀o,h.get? it=some o ->h'.get? it=some o):cN t h' it l i:=by
 cases t<;>exact let ⟨o,ho,r⟩:=x;⟨o,k o ho,r⟩
theorem QV(x:cY t h l xs)(k:∀o,h.get? l=some o ->h'.get? l=some o):cY t h' l xs:=by
 cases t<;>exact let ⟨o,ho,r⟩:=x;⟨o,k o ho,r⟩
theorem JQ(x:cN t h it l i):∃o,h.get? it=some o/\∀v,o.data≠ .cell v:=by
 cases t<;>exact let ⟨o,ho,_,d⟩:=x;⟨o,ho,fun v z=>by rw[d] at z;cases z⟩
theorem Fy(hl:cY t s.heap l xs)
  (hQ:Q (.ref s.heap.objs.size) {s with heap:=s.heap.push {cls:= .type (if t then "tuple_iterator" else "list_iterator"),data:= .fields #[.ref l,.int 0 0]}}):wpAny (model prog w) A (pyIter (.ref l)) Q E s:=by
 cases t
 ·exact wpAny_pyIter_list hl hQ
 ·exact wpAny_pyIter_tuple hl hQ
theorem QX(hit:cN t s.heap it l i)(hl:cY t s.heap l xs)(hx:xs[i]?=some x)
  (hQ:∀h',cN t h' it l (i+1) ->Heap.SameBut it s.heap h' ->Q x {s with heap:=h'}):wpAny (model prog w) A (Builtin.SmallTypes.nextOf (.ref it)) Q E s:=by
 cases t
 ·exact wpAny_nextOf_list_item hit hl hx hQ
 ·have hit2:s.heap.IsTupleIter it l i:=hit;obtain⟨o,ho,hc,hd⟩:=id hit2;obtain⟨ol,hol,_,nl,hdl⟩:=(show s.heap.IsTuple l xs from hl);unfold Builtin.SmallTypes.nextOf;refine z6 (wpAny_callSpecial?_slot (name:=Str.ofString "__next__") hit2.typeIs F.slot_tuple_iterator_next (wpAny_call_entry F.slot_tuple_iterator_next hit2.typeIs F.entry_tuple_iterator_next ?_ (F.args_tuple_iterator_next_1 _)));show wpAny _ _ (field (.ref it) 0>>=_) _ _ s;refine z6 (wpAny_field ho hd (x:= .ref l) rfl ?_);show wpAny _ _ (if (Value.ref l==Value.none)=true then _ else _) _ _ s;rw[if_neg (show¬((Value.ref l==Value.none)=true) from Bool.false_ne_true)];show wpAny _ _ (field (.ref it) 1>>=_) _ _ s;refine z6 (wpAny_field ho hd (x:= .int i 0) rfl ?_);show wpAny _ _ (seqItems? (.ref l)>>=_) _ _ s;refine z6 (wpAny_seqItems hol hdl ?_);simp only [Int.toNat_natCast,hx];refine z6 (wpAny_setField ho hd (by simp) (z7 ⟨x,rfl,z7 (hQ _ ?_ (Heap.SameBut.update ..))⟩))
  exact⟨_,Heap.get?_update_self _ ho (Obj.isFreed_of_fields (Obj.data_mapFields hd _)),(Obj.cls_mapFields ..).trans hc,by rw[Obj.data_mapFields hd];simp [rawInt]⟩
theorem X4(hh:A.handled=none)(hit:cN t s.heap it l i)(hl:cY t s.heap l xs)(hx:xs[i]?=none)
  (hE:∀h' e,Heap.ExtBut it s.heap h' ->(∃o,h'.get? e=some o/\o.cls= .type "StopIteration") ->E (.ref e) {s with heap:=h'}):wpAny (model prog w) A (Builtin.SmallTypes.nextOf (.ref it)) Q E s:=by
 cases t
 ·exact wpAny_nextOf_list_end hh hit hl hx hE
 ·have hit2:s.heap.IsTupleIter it l i:=hit;obtain⟨o,ho,hc,hd⟩:=id hit2;obtain⟨ol,hol,_,nl,hdl⟩:=(show s.heap.IsTuple l xs from hl);unfold Builtin.SmallTypes.nextOf;refine z6 (wpAny_callSpecial?_slot (name:=Str.ofString "__next__") hit2.typeIs F.slot_tuple_iterator_next (wpAny_call_entry F.slot_tuple_iterator_next hit2.typeIs F.entry_tuple_iterator_next ?_ (F.args_tuple_iterator_next_1 _)));show wpAny _ _ (field (.ref it) 0>>=_) _ _ s;refine z6 (wpAny_field ho hd (x:= .ref l) rfl ?_);show wpAny _ _ (if (Value.ref l==Value.none)=true then _ else _) _ _ s;rw[if_neg (show¬((Value.ref l==Value.none)=true) from Bool.false_ne_true)];show wpAny _ _ (field (.ref it) 1>>=_) _ _ s;refine z6 (wpAny_field ho hd (x:= .int i 0) rfl ?_);show wpAny _ _ (seqItems? (.ref l)>>=_) _ _ s;refine z6 (wpAny_seqItems hol hdl ?_);simp only [Int.toNat_natCast,hx];refine z6 (wpAny_rule (z6 (wpAny_setField ho hd (by simp) ?_)))
  show wpAny _ _ (newExc (.type "StopIteration") []>>=_) _ _ _;refine z6 ?_;simp only [newExc,newTuple];refine z6 (wpAny_newObj_type ?_ (by size_fits))
  refine z6 (m:=firstArgMember _ _) (wpAny_of_eq (a:=Value.none) (by first | rfl | (simp only [firstArgMember];rfl)) ?_)
  refine wpAny_newObj_type ?_ (by size_fits)
  simp only [raiseNew];refine z6 (wpAny_handled ?_)
  first | rw[show A.in1.handled=none from hh] | rw[hh]
  refine z6 (z7 (wpAny_throw ?_));exact hE _ _ (((Heap.SameBut.update ..).extBut.push _).push _) ⟨_,z9 _ rfl,rfl⟩
structure m5 (z TI TO i1 i2 l1 l2:Addr):Prop where
 p:TI≠z/\TO≠z/\i1≠z/\i2≠z/\TI≠TO/\TI≠i1/\TI≠i2/\TO≠i1/\TO≠i2/\i1≠i2
 q:l1≠z/\l1≠TO/\l1≠i1/\l1≠i2/\l2≠z/\l2≠TO/\l2≠i1/\l2≠i2
theorem m5.k{z TI TO i1 i2 l1 l2:Addr}(D:m5 z TI TO i1 i2 l1 l2):ZipApart z TI TO i1 i2 l1 l2:=by
 obtain⟨⟨a1,a2,a3,a4,a5,a6,a7,a8,a9,a10⟩,b1,b2,b3,b4,b5,b6,b7,b8⟩:=D;exact⟨a1,a2,a3,a4,a5,a6,a7,a8,a9,a10,b1,b2,b3,b4,b5,b6,b7,b8⟩
theorem zsz{t1 t2:Bool}{z TI TO i1 i2 l1 l2:Addr}{k1 k2:Nat}{xs ys:Array Value}{x y a b:Value}{Q:bH}(D:ZipApart z TI TO i1 i2 l1 l2)(hz:IsZip s.heap z TI TO .none)(hTI:IsPair s.heap TI (.ref i1) (.ref i2))(hTO:IsPair s.heap TO a b)
  (h1:cN t1 s.heap i1 l1 k1) (h2:cN t2 s.heap i2 l2 k2) (hl1:cY t1 s.heap l1 xs) (hl2:cY t2 s.heap l2 ys) (hx:xs[k1]?=some x) (hy:ys[k2]?=some y)
  (hQ:∀h',IsZip h' z TI TO (rawInt s.heap.objs.size) ->IsPair h' TO x y ->cN t1 h' i1 l1 (k1+1) ->cN t2 h' i2 l2 (k2+1) ->IsPair h' s.heap.objs.size x y ->h'.objs.size=s.heap.objs.size+1 ->
   (∀c o,c≠z ->c≠TO ->c≠i1 ->c≠i2 ->s.heap.get? c=some o ->h'.get? c=some o) ->Q (.ref s.heap.objs.size) {s with heap:=h'}):wpAny (model prog w) A (Builtin.«zip.__next__» ⟨[.ref z],[]⟩) (fun fin s' =>∃v,fin= .done (.ret v)/\Q v s') E s:=by
 have kI:∀{t:Bool} {h h' :Heap} {it l c:Addr} {i:Nat},cN t h it l i ->Heap.ExtBut c h h' ->it≠c ->cN t h' it l i:=fun x e n=>v8 x fun o ho=>e _ o n ho;have kS:∀{t:Bool} {h h' :Heap} {l c:Addr} {ws:Array Value},cY t h l ws ->Heap.ExtBut c h h' ->l≠c ->cY t h' l ws:=fun x e n=>QV x fun o ho=>e _ o n ho;show wpAny _ _ (field (.ref z) 2>>=_) _ _ _;refine z6 (wpAny_field hz rfl (x:= .bool false) rfl ?_);show wpAny _ _ (field (.ref z) 3>>=_) _ _ _;refine z6 (wpAny_field hz rfl (x:= .ref TI) rfl ?_);refine z6 (wpAny_seqItems hTI rfl ?_);show wpAny _ _ (Builtin.SmallTypes.ownedTupleIsFree (.ref z)>>=_) _ _ _;refine z6 ?_;unfold Builtin.SmallTypes.ownedTupleIsFree;refine z6 (wpAny_field hz rfl (x:= .none) rfl (z7 ?_));simp only [if_true];refine z6 (wpAny_rule ?_);refine z6 (wpAny_field hz rfl (x:= .ref TO) rfl ?_);refine z6 (wpAny_setField_rec hz (by simp) fun g1 hz1 hs1=> ?_)
 replace hz1:IsZip g1 z TI TO .ellipsis:=hz1;refine z6 ?_;simp only [List.zipIdx_cons,List.zipIdx_nil,List.forIn_cons,List.forIn_nil];refine z6 (z6 (wpAny_onRaise ?_));show wpAny _ _ (Builtin.SmallTypes.nextOf (.ref i1)>>=_) _ _ _;refine z6 (QX (kI h1 hs1.extBut D.i1z) (kS hl1 hs1.extBut D.l1z) hx fun g2 q1 hs2=>z7 ?_);have FJ :IsPair g2 TO a b:=hs2.extBut _ _ D.TOi1 (hs1.extBut _ _ D.TOz hTO);refine z6 (wpAny_seqItems FJ rfl ?_);refine z6 (wpAny_updateSeq_pair FJ fun g3 t3 hs3=> ?_);replace t3:IsPair g3 TO x b:=t3;refine z6 (wpAny_letGo (z7 ?_));refine z6 (z6 (wpAny_onRaise ?_));show wpAny _ _ (Builtin.SmallTypes.nextOf (.ref i2)>>=_) _ _ _;refine z6 (QX (kI (kI (kI h2 hs1.extBut D.i2z) hs2.extBut D.i12.symm) hs3.extBut D.TOi2.symm) (kS (kS (kS hl2 hs1.extBut D.l2z) hs2.extBut D.l2i1) hs3.extBut D.l2TO) hy fun g4 q2 v9=>z7 ?_);have t4:IsPair g4 TO x b:=v9.extBut _ _ D.TOi2 t3;refine z6 (wpAny_seqItems t4 rfl ?_);refine z6 (wpAny_updateSeq_pair t4 fun g5 t5 wg=> ?_);replace t5:IsPair g5 TO x y:=t5;refine z6 (wpAny_letGo (z7 (z7 ?_)));refine z6 (wpAny_seqItems t5 rfl ?_);refine z6 (wpAny_newTuple ?_);have hsz:g5.objs.size=s.heap.objs.size:=by rw[wg.1,v9.1,hs3.1,hs2.1,hs1.1]
 have Qg:IsZip g5 z TI TO .ellipsis:=wg.extBut _ _ D.TOz.symm (v9.extBut _ _ D.i2z.symm (hs3.extBut _ _ D.TOz.symm (hs2.extBut _ _ D.i1z.symm hz1)));have hk5:∀c o,c≠z ->c≠TO ->c≠i1 ->c≠i2 ->s.heap.get? c=some o ->g5.get? c=some o:=fun c o c1 c2 c3 c4 e=>wg.extBut _ _ c2 (v9.extBut _ _ c4 (hs3.extBut _ _ c2 (hs2.extBut _ _ c3 (hs1.extBut _ _ c1 e))));have r1:cN t1 g5 i1 l1 (k1+1):=kI (kI (kI q1 hs3.extBut D.TOi1.symm) v9.extBut D.i12) wg.extBut D.TOi1.symm;have r2:cN t2 g5 i2 l2 (k2+1):=kI q2 wg.extBut D.TOi2.symm;have X5:z<g5.objs.size:=zJ Qg;show wpAny _ _ (Builtin.SmallTypes.ownedTupleHandOut (.ref z) (.ref g5.objs.size)>>=_) _ _ _;refine z6 ?_;unfold Builtin.SmallTypes.ownedTupleHandOut;have hz6:IsZip (g5.push {cls:= .type "tuple",data:= .seq #[x,y]}) z TI TO .ellipsis:=z8 _ Qg;refine z6 (wpAny_setField_rec hz6 (by simp) fun g7 QZ Q5=> ?_)
 replace QZ:IsZip g7 z TI TO (rawInt g5.objs.size):=QZ;refine wpAny_setField_rec QZ (by simp) fun g8 hz8 Q6=> ?_
 replace hz8:IsZip g8 z TI TO (rawInt g5.objs.size):=hz8;have up:∀c o,c≠z ->g5.get? c=some o ->g8.get? c=some o:=fun c o c1 e=>Q6.extBut _ _ c1 (Q5.extBut _ _ c1 (z8 _ e));have hT8:IsPair g8 g5.objs.size x y:=Q6.extBut _ _ (Nat.ne_of_gt X5) (Q5.extBut _ _ (Nat.ne_of_gt X5) (z9 _ rfl));have X6:g8.objs.size=g5.objs.size+1:=by rw[Q6.1,Q5.1,Heap.size_push]
 rw[hsz] at hz8 hT8 X6;refine z7 ⟨_,rfl,?_⟩;show Q (.ref g5.objs.size) _;rw[hsz];exact hQ g8 hz8 (up _ _ D.TOz t5) (v8 r1 fun o e=>up _ o D.i1z e) (v8 r2 fun o e=>up _ o D.i2z e) hT8 X6 fun c o c1 c2 c3 c4 e=>up c o c1 (hk5 c o c1 c2 c3 c4 e)
theorem zxm{t1 t2:Bool}{z TI TO i1 i2 l1 l2:Addr}{k1 k2:Nat}{xs ys:Array Value}{a b:Value}{Q:Fin ->Shared ->Prop}(hh:A.handled=none)(D:ZipApart z TI TO i1 i2 l1 l2)(hz:IsZip s.heap z TI TO .none)(hTI:IsPair s.heap TI (.ref i1) (.ref i2))(hTO:IsPair s.heap TO a b)
  (h1:cN t1 s.heap i1 l1 k1) (h2:cN t2 s.heap i2 l2 k2) (hl1:cY t1 s.heap l1 xs) (hl2:cY t2 s.heap l2 ys) (hend:xs[k1]?=none\/ys[k2]?=none)
  (hE:∀h' e,(∀c o,c≠z ->c≠TO ->c≠i1 ->c≠i2 ->s.heap.get? c=some o ->h'.get? c=some o) ->(∃o,h'.get? e=some o/\o.cls= .type "StopIteration") ->E (.ref e) {s with heap:=h'}):wpAny (model prog w) A (Builtin.«zip.__next__» ⟨[.ref z],[]⟩) Q E s:=by
 have kI:∀{t:Bool} {h h' :Heap} {it l c:Addr} {i:Nat},cN t h it l i ->Heap.ExtBut c h h' ->it≠c ->cN t h' it l i:=fun x e n=>v8 x fun o ho=>e _ o n ho;have kS:∀{t:Bool} {h h' :Heap} {l c:Addr} {ws:Array Value},cY t h l ws ->Heap.ExtBut c h h' ->l≠c ->cY t h' l ws:=fun x e n=>QV x fun o ho=>e _ o n ho;show wpAny _ _ (field (.ref z) 2>>=_) _ _ _;refine z6 (wpAny_field hz rfl (x:= .bool false) rfl ?_);show wpAny _ _ (field (.ref z) 3>>=_) _ _ _;refine z6 (wpAny_field hz rfl (x:= .ref TI) rfl ?_);refine z6 (wpAny_seqItems hTI rfl ?_);show wpAny _ _ (Builtin.SmallTypes.ownedTupleIsFree (.ref z)>>=_) _ _ _;refine z6 ?_;unfold Builtin.SmallTypes.ownedTupleIsFree;refine z6 (wpAny_field hz rfl (x:= .none) rfl (z7 ?_));simp only [if_true];refine z6 (wpAny_rule ?_);refine z6 (wpAny_field hz rfl (x:= .ref TO) rfl ?_);refine z6 (wpAny_setField_rec hz (by simp) fun g1 hz1 hs1=> ?_)
 replace hz1:IsZip g1 z TI TO .ellipsis:=hz1;refine z6 ?_;simp only [List.zipIdx_cons,List.zipIdx_nil,List.forIn_cons,List.forIn_nil];refine z6 (z6 (wpAny_onRaise ?_));show wpAny _ _ (Builtin.SmallTypes.nextOf (.ref i1)>>=_) _ _ _;cases hx:xs[k1]? with
 | none=>
  refine z6 (X4 hh (kI h1 hs1.extBut D.i1z) (kS hl1 hs1.extBut D.l1z) hx fun g2 e hs2 he=> ?_);obtain⟨oe,hoe,hce⟩:=he;have hz2:IsZip g2 z TI TO .ellipsis:=hs2 _ _ D.i1z.symm hz1;have hez:e≠z:=fun x=>by subst x;rw[hz2] at hoe;cases hoe;simp at hce
  exact wpAny_setField_rec hz2 (by simp) fun g3 _ hs3=>hE g3 e (fun c o c1 _ c3 _ x=>hs3.extBut _ _ c1 (hs2 _ _ c3 (hs1.extBut _ _ c1 x))) ⟨oe,hs3.extBut _ _ hez hoe,hce⟩
 | some x=>
  have hy:ys[k2]?=none:=by rcases hend with h | h;rw[hx] at h;cases h;exact h
  refine z6 (QX (kI h1 hs1.extBut D.i1z) (kS hl1 hs1.extBut D.l1z) hx fun g2 q1 hs2=>z7 ?_);have FJ :IsPair g2 TO a b:=hs2.extBut _ _ D.TOi1 (hs1.extBut _ _ D.TOz hTO);refine z6 (wpAny_seqItems FJ rfl ?_);refine z6 (wpAny_updateSeq_pair FJ fun g3 t3 hs3=> ?_);refine z6 (wpAny_letGo (z7 ?_));refine z6 (z6 (wpAny_onRaise ?_));show wpAny _ _ (Builtin.SmallTypes.nextOf (.ref i2)>>=_) _ _ _;refine z6 (X4 hh (kI (kI (kI h2 hs1.extBut D.i2z) hs2.extBut D.i12.symm) hs3.extBut D.TOi2.symm) (kS (kS (kS hl2 hs1.extBut D.l2z) hs2.extBut D.l2i1) hs3.extBut D.l2TO) hy fun g4 e v9 he=> ?_);obtain⟨oe,hoe,hce⟩:=he;have X7:IsZip g4 z TI TO .ellipsis:=v9 _ _ D.i2z.symm (hs3.extBut _ _ D.TOz.symm (hs2.extBut _ _ D.i1z.symm hz1));have hez:e≠z:=fun x=>by subst x;rw[X7] at hoe;cases hoe;simp at hce
  exact wpAny_setField_rec X7 (by simp) fun g5 _ wg=>hE g5 e (fun c o c1 c2 c3 c4 x=>wg.extBut _ _ c1 (v9 _ _ c4 (hs3.extBut _ _ c2 (hs2.extBut _ _ c3 (hs1.extBut _ _ c1 x))))) ⟨oe,wg.extBut _ _ hez hoe,hce⟩
theorem zq9{t1 t2:Bool}{z TI TO i1 i2 l1 l2:Addr}{k1 k2:Nat}{xs ys:Array Value}{x y a b:Value}{Q:Option Value ->Shared ->Prop}(D:ZipApart z TI TO i1 i2 l1 l2)(hz:IsZip s.heap z TI TO .none)(hTI:IsPair s.heap TI (.ref i1) (.ref i2))(hTO:IsPair s.heap TO a b)
  (h1:cN t1 s.heap i1 l1 k1) (h2:cN t2 s.heap i2 l2 k2) (hl1:cY t1 s.heap l1 xs) (hl2:cY t2 s.heap l2 ys) (hx:xs[k1]?=some x) (hy:ys[k2]?=some y)
  (hQ:∀h',IsZip h' z TI TO (rawInt s.heap.objs.size) ->IsPair h' TO x y ->cN t1 h' i1 l1 (k1+1) ->cN t2 h' i2 l2 (k2+1) ->IsPair h' s.heap.objs.size x y ->h'.objs.size=s.heap.objs.size+1 ->
   (∀c o,c≠z ->c≠TO ->c≠i1 ->c≠i2 ->s.heap.get? c=some o ->h'.get? c=some o) ->Q (some (.ref s.heap.objs.size)) {s with heap:=h'}):wpAny (model prog w) A (pyNext (.ref z)) Q E s:=by
 have hT:s.TypeIs (.ref z) "zip" :=⟨_,hz,rfl⟩;unfold pyNext;exact z6 (wpAny_attempt (wpAny_callSpecial?_slot (name:=Str.ofString "__next__") hT F.slot_zip_next (wpAny_call_entry F.slot_zip_next hT F.entry_zip_next (zsz D hz hTI hTO h1 h2 hl1 hl2 hx hy fun h' a1 a2 a3 a4 a5 a6 a7=>z7 (hQ h' a1 a2 a3 a4 a5 a6 a7)) (F.args_zip_next_1 _))))
theorem zuq{t1 t2:Bool}{z TI TO i1 i2 l1 l2:Addr}{k1 k2:Nat}{xs ys:Array Value}{a b:Value}{Q:Option Value ->Shared ->Prop}(hh:A.handled=none)(D:ZipApart z TI TO i1 i2 l1 l2)(hz:IsZip s.heap z TI TO .none)(hTI:IsPair s.heap TI (.ref i1) (.ref i2))(hTO:IsPair s.heap TO a b)
  (h1:cN t1 s.heap i1 l1 k1) (h2:cN t2 s.heap i2 l2 k2) (hl1:cY t1 s.heap l1 xs) (hl2:cY t2 s.heap l2 ys) (hend:xs[k1]?=none\/ys[k2]?=none)
  (hQ:∀h',(∀c o,c≠z ->c≠TO ->c≠i1 ->c≠i2 ->s.heap.get? c=some o ->h'.get? c=some o) ->Q none {s with heap:=h'}):wpAny (model prog w) A (pyNext (.ref z)) Q E s:=by
 have hT:s.TypeIs (.ref z) "zip" :=⟨_,hz,rfl⟩;unfold pyNext;refine z6 (wpAny_attempt (wpAny_callSpecial?_slot (name:=Str.ofString "__next__") hT F.slot_zip_next (wpAny_call_entry F.slot_zip_next hT F.entry_zip_next (zxm hh D hz hTI hTO h1 h2 hl1 hl2 hend fun h' e hk he=> ?_) (F.args_zip_next_1 _))));obtain⟨o,ho,hc⟩:=he;refine z6 (wpAny_isInstance (T:= "StopIteration") (b:=true) ⟨o,ho,hc⟩ isSubtype_stop ?_);exact z7 (hQ _ hk)
def FN(t:Bool):String:=if t then "tuple_iterator" else "list_iterator"
abbrev JR(t1:Bool)(h:Heap)(l1:Addr):Heap:=h.push {cls:= .type (FN t1),data:= .fields #[.ref l1,.int 0 0]}
abbrev JT(t1 t2:Bool)(h:Heap)(l1 l2:Addr):Heap:=(JR t1 h l1).push {cls:= .type (FN t2),data:= .fields #[.ref l2,.int 0 0]}
abbrev JV(t1 t2:Bool)(h:Heap)(l1 l2:Addr):Heap:=(JT t1 t2 h l1 l2).push {cls:= .type "tuple",data:= .seq #[.ref h.objs.size,.ref (JR t1 h l1).objs.size]}
abbrev JW(t1 t2:Bool)(h:Heap)(l1 l2:Addr):Heap:=(JV t1 t2 h l1 l2).push {cls:= .type "tuple",data:= .seq #[.none,.none]}
abbrev Bh(t1 t2:Bool)(h:Heap)(l1 l2:Addr):Heap:=(JW t1 t2 h l1 l2).push {cls:= .type "zip",data:= .fields #[.none,.bool false,.bool false,.ref (JT t1 t2 h l1 l2).objs.size,.ref (JV t1 t2 h l1 l2).objs.size]}
theorem zuh(x:cY t h l xs)(o:Obj):cY t (h.push o) l xs:=QV x fun _ e=>z8 _ e
theorem sI(hl:cY t s.heap l xs)
  (hQ:Q (.ref s.heap.objs.size) {s with heap:=s.heap.push {cls:= .type (FN t),data:= .fields #[.ref l,.int 0 0]}}):wpAny (model prog w) A (pyIter (.ref l)) Q E s:=Fy hl hQ
theorem yI(t1 t2:Bool)(l1 l2:Addr)(xs ys:Array Value):Meets (Builtin.«zip.__new__» ⟨[.type "zip",.ref l1,.ref l2],[]⟩) (fun _ R s=>cY t1 s.heap l1 xs/\cY t2 s.heap l2 ys/\R (.ok (.ret (.ref (JW t1 t2 s.heap l1 l2).objs.size))) {s with heap:=Bh t1 t2 s.heap l1 l2}):=
 .of_wp fun prog w A R s h=>by
  obtain⟨hp,g,d,tk,os⟩:=s;obtain⟨hl1,hl2,h⟩:=h;have hsub:=sub_zip;have hL1:cY t1 (Shared.heap ⟨hp,g,d,tk,os⟩) l1 xs:=hl1;have hL2:cY t2 (Shared.heap ⟨hp.push {cls:= .type (FN t1),data:= .fields #[.ref l1,.int 0 0]},g,d,tk,os⟩) l2 ys:=zuh hl2 _
  wp_walk using sI hL1,sI hL2
  exact⟨_,rfl,h⟩
theorem X8(e:h.get? a=some {cls:= .type (FN t),data:= .fields #[.ref l,.int 0 0]}):cN t h a l 0:=by
 cases t<;>exact⟨_,e,rfl,rfl⟩
theorem zvn(hl1:cY t1 s.heap l1 xs)(hl2:cY t2 s.heap l2 ys)
  (h:∀h',IsZip h' (s.heap.objs.size+4) (s.heap.objs.size+2) (s.heap.objs.size+3) .none ->IsPair h' (s.heap.objs.size+2) (.ref s.heap.objs.size) (.ref (s.heap.objs.size+1)) ->IsPair h' (s.heap.objs.size+3) .none .none ->cN t1 h' s.heap.objs.size l1 0 ->cN t2 h' (s.heap.objs.size+1) l2 0 ->
   (∀c o,s.heap.get? c=some o ->h'.get? c=some o) ->Q (.ref (s.heap.objs.size+4)) {s with heap:=h'}):wpAny (model prog w) A (call (.type "zip") [.ref l1,.ref l2]) Q E s:=by
 refine callType_new F.called_zip (by decide) (F.typeCall_zip_2 _ _) (F.newCall_zip_2 _ _) (fun obj=>F.args_object_init_3 obj _ _) F.entry_zip_new (yI t1 t2 l1 l2 xs ys) ⟨hl1,hl2,?_⟩
 have z1:(JR t1 s.heap l1).objs.size=s.heap.objs.size+1:=Heap.size_push ..;have z2:(JT t1 t2 s.heap l1 l2).objs.size=s.heap.objs.size+2:=by rw[Heap.size_push,z1]
 have z3:(JV t1 t2 s.heap l1 l2).objs.size=s.heap.objs.size+3:=by rw[Heap.size_push,z2]
 have z4:(JW t1 t2 s.heap l1 l2).objs.size=s.heap.objs.size+4:=by rw[Heap.size_push,z3]
 have g5:(Bh t1 t2 s.heap l1 l2).get? (JW t1 t2 s.heap l1 l2).objs.size=some _:=z9 _ rfl;have g4:(Bh t1 t2 s.heap l1 l2).get? (JV t1 t2 s.heap l1 l2).objs.size=some _:=z8 _ (z9 _ rfl);have g3:(Bh t1 t2 s.heap l1 l2).get? (JT t1 t2 s.heap l1 l2).objs.size=some _:=z8 _ (z8 _ (z9 _ rfl));have g2:(Bh t1 t2 s.heap l1 l2).get? (JR t1 s.heap l1).objs.size=some _:=z8 _ (z8 _ (z8 _ (z9 _ rfl)));have g1:(Bh t1 t2 s.heap l1 l2).get? s.heap.objs.size=some _:=z8 _ (z8 _ (z8 _ (z8 _ (z9 _ rfl))));show _/\_;rw[z2,z3,z4] at g5;rw[z1,z2] at g3;rw[z3] at g4;rw[z1] at g2;rw[z4];exact⟨⟨_,g5,rfl⟩,h _ g5 g3 g4 (X8 g1) (X8 g2) fun c o x=>z8 _ (z8 _ (z8 _ (z8 _ (z8 _ x))))⟩
end
def Sq(t:Bool)(K:W.Frag)(H:Hp)(a:Addr)(xs:List V):Prop:=match t with | false=>fL K H a xs | true=>iQ K H a xs
theorem Bj(I:Inv X pins σ H s)(h:Sq t X.K H a xs):∃its:List Value,Vals xs its/\cY t s.heap a its.toArray/\xs.length<=sizeLine:=by
 cases t
 ·obtain⟨its,rv,p,hz⟩:=I.list h;exact⟨its,rv,p.isList,hz⟩
 ·obtain⟨its,rv,p,hz⟩:=I.tuple h;exact⟨its,rv,p,hz⟩
theorem Yb(I:Inv X pins σ H s)(h:Sq t X.K H a xs)(h' :Sq t X.K H a ys):xs=ys:=by
 cases t
 ·exact I.list_inj h h'
 ·exact I.tuple_inj h h'
def Q7(K:W.Frag)(t1 t2:Bool)(a b:Addr):It:=
 ⟨fun i H=>∃xs ys x y,Sq t1 K H a xs/\Sq t2 K H b ys/\xs[i]?=some x/\ys[i]?=some y,fun i H v H' =>∃c x y,v= .ref c/\H c=none/\H' =upd H c (.tup [x,y])/\ (∀xs,Sq t1 K H a xs ->xs[i]?=some x)/\∀ys,Sq t2 K H b ys ->ys[i]?=some y,
  fun i H=>∃xs ys,Sq t1 K H a xs/\Sq t2 K H b ys/\ (xs.length<=i\/ys.length<=i)⟩
theorem zap{n l1 l2:Nat}(h1:l1<n)(h2:l2<n):m5 (n+4) (n+2) (n+3) n (n+1) l1 l2:=by
 have e:∀a b:Nat,a≠b ->(a:Addr)≠b:=fun _ _ h=>h;refine⟨⟨e _ _ ?_,e _ _ ?_,e _ _ ?_,e _ _ ?_,e _ _ ?_,e _ _ ?_,e _ _ ?_,e _ _ ?_,e _ _ ?_,e _ _ ?_⟩,e _ _ ?_,e _ _ ?_,e _ _ ?_,e _ _ ?_,e _ _ ?_,e _ _ ?_,e _ _ ?_,e _ _ ?_⟩<;>omega
theorem zw8{P:Program}{w:World}{K:W.Frag}{elts:List Expr}{x1}{pos:Pos}(t1 t2:Bool)(a b z TI TO i1 i2:Addr)(D:m5 z TI TO i1 i2 a b):Turn P w K (.Tuple elts x1 pos) (Q7 K t1 t2 a b) [z,TI,TO,i1,i2] z
  (fun i h=>IsZip h z TI TO .none/\IsPair h TI (.ref i1) (.ref i2)/\ (∃u v,IsPair h TO u v)/\cN t1 h i1 a i/\cN t2 h i2 b i) where
 mem:=by simp
 obj:=fun i h q c hc=>by
  obtain⟨q1,q2,⟨u,v,q3⟩,q4,q5⟩:=q;simp only [List.mem_cons,List.not_mem_nil,or_false] at hc;rcases hc with rfl | rfl | rfl | rfl | rfl
  ·exact⟨_,q1,fun v z=>by cases z⟩
  ·exact⟨_,q2,fun v z=>by cases z⟩
  ·exact⟨_,q3,fun v z=>by cases z⟩
  ·exact JQ q4
  ·exact JQ q5
 keep:=fun i h h' q k=>by
  obtain⟨q1,q2,⟨u,v,q3⟩,q4,q5⟩:=q;exact⟨k z (by simp) _ q1,k TI (by simp) _ q2,⟨u,v,k TO (by simp) _ q3⟩,v8 q4 fun o e=>k i1 (by simp) o e,v8 q5 fun o e=>k i2 (by simp) o e⟩
 item:=by
  intro X hP hw hK hc i pins s σ H E I hf q hg;obtain⟨q1,q2,⟨u,v,q3⟩,q4,q5⟩:=q;subst hP hw hK;obtain⟨xs,ys,x,y,hq1,hq2,hx,hy⟩:=hg;obtain⟨its,rv,p,_⟩:=Bj I hq1;obtain⟨jts,JX,p2,_⟩:=Bj I hq2;obtain⟨ux,hux,rux⟩:=rv.get hx;obtain⟨uy,huy,ruy⟩:=JX.get hy;have lt:∀c∈ [z,TI,TO,i1,i2],c<s.heap.objs.size:=fun c hc=>by
   simp only [List.mem_cons,List.not_mem_nil,or_false] at hc;rcases hc with rfl | rfl | rfl | rfl | rfl
   ·exact zJ q1
   ·exact zJ q2
   ·exact zJ q3
   ·obtain⟨o,e,_⟩:=JQ q4;exact zJ e
   ·obtain⟨o,e,_⟩:=JQ q5;exact zJ e
  have Dk:=D.k;refine zq9 Dk q1 q2 q3 q4 q5 p p2 (x:=ux) (y:=uy) (by simpa using hux) (by simpa using huy) fun h1 a1 a2 a3 a4 a5 a6 k1=> ?_
  refine⟨_,rfl,wpAny_letOwnedTupleGo_zip a1 fun h2 e2 sb=> ?_⟩;have uz:Heap.SameBut z h1 h2:=sb;have zl:=lt z (by simp)
  have I2:Inv X pins σ (upd H s.heap.objs.size (.tup [x,y])) {s with heap:=h2,toks:=s.toks}:=
   XS (fp:= [z,TI,TO,i1,i2]) (its:= [ux,uy]) I (fun c o hb e=>uz.extBut c o (fun y=>hb (by simp [y])) (k1 c o (fun y=>hb (by simp [y])) (fun y=>hb (by simp [y])) (fun y=>hb (by simp [y])) (fun y=>hb (by simp [y])) e))
    lt ((uz.2 _ (Nat.ne_of_gt zl)).trans a5) (.cons rux (.cons ruy .nil)) (by show(2:Nat)<=sizeLine;decide) hf
  refine⟨.ref s.heap.objs.size,_,I2,rfl,⟨_,x,y,rfl,I.fresh,rfl,fun zs hz=>by rw[Yb I hz hq1];exact hx,fun zs hz=>by rw[Yb I hz hq2];exact hy⟩,⟨e2,?_,⟨ux,uy,uz.extBut _ _ Dk.TOz a2⟩,v8 a3 fun o e=>uz.extBut _ o Dk.i1z e,v8 a4 fun o e=>uz.extBut _ o Dk.i2z e⟩,fun c hc=> ?_⟩
  ·exact uz.extBut _ _ Dk.TIz (k1 _ _ Dk.TIz Dk.TITO Dk.TIi1 Dk.TIi2 q2)
  ·exact(QJ (hf c hc) (zL (lt c hc))).1
 done:=by
  intro X hP hw hK hc i pins s σ H E I hf q hg;obtain⟨q1,q2,⟨u,v,q3⟩,q4,q5⟩:=q;subst hP hw hK;obtain⟨xs,ys,hq1,hq2,hx⟩:=hg;obtain⟨its,rv,p,_⟩:=Bj I hq1;obtain⟨jts,JX,p2,_⟩:=Bj I hq2;have l1:=rv.length;have l2:=JX.length;refine zuq (I.ok.hd hc) D.k q1 q2 q3 q4 q5 p p2 ?_ fun h' k1=>⟨rfl,QH (t' :=s.toks) (fp:= [z,TI,TO,i1,i2]) I (fun c o hb e=>k1 c o (fun y=>hb (by simp [y])) (fun y=>hb (by simp [y])) (fun y=>hb (by simp [y])) (fun y=>hb (by simp [y])) e) hf⟩
  rcases hx with hx | hx
  ·exact .inl (by simp;omega)
  ·exact .inr (by simp;omega)
 self:=fun _ _ _ _ _ q h=>wpAny_pyIter_zip q.1 h
theorem zye:bootBuiltins "zip" =some (.type "zip"):=by decide+kernel
def Q8(K:W.Frag)(ta:TA):TI:=fun σ H R=>ta σ H fun vs H1=>∃t1 t2 a b xs ys,vs= [.ref a,.ref b]/\Sq t1 K H1 a xs/\Sq t2 K H1 b ys/\ (xs.length<=sizeLine ->ys.length<=sizeLine ->R (Q7 K t1 t2 a b) H1)
theorem z41{X:Cx}{a b:Expr}{ta:TA}{p pos:Pos}{elts:List Expr}{x1}{pt:Pos}(hg:Gl X "zip")(hm:X.mg "zip" =none)(ha:PA X [a,b] ta)(hs:starEach [a,b] X.env=(false,eval a X.env)::starEach [b] X.env:=by rfl)(hpl:(backTo pos (starEach [b] X.env)).any (·.1)=false:=by rfl):
  PI X (.Tuple elts x1 pt) (.Call (.Name "zip" p) [a,b] [] pos) (Q8 X.K ta):=by
 intro pins s σ H R I h;refine Call_ (vP I hg hm zye (PyProof.Rows.callWith_type1 (bD (ha pos pins s σ H _ I h) fun us s1 ⟨vs,H1,I1,r1,q1⟩=> ?_) hs hpl));obtain⟨t1,t2,l1,l2,xs,ys,rfl,hq1,hq2,q⟩:=q1;cases r1 with
 | cons r rr=>
  cases rr with
  | cons r' rr=>
   cases rr;cases r;cases r';obtain⟨its,rv,p1,hz1⟩:=Bj I1 hq1;obtain⟨jts,JX,p2,hz2⟩:=Bj I1 hq2;have n1:l1<s1.heap.objs.size:=by cases t1<;>exact let ⟨o,e,_⟩:=p1;zJ e
   have n2:l2<s1.heap.objs.size:=by cases t2<;>exact let ⟨o,e,_⟩:=p2;zJ e
   refine zvn p1 p2 fun h' e1 e2 e3 e4 e5 kp=> ?_;refine wpAny_pyIter_zip e1 ⟨s1.heap.objs.size+4,[s1.heap.objs.size+4,s1.heap.objs.size+2,s1.heap.objs.size+3,s1.heap.objs.size,s1.heap.objs.size+1],_,_,H1,rfl,I1.kept (t' :=s1.toks) kp,
    zw8 t1 t2 l1 l2 _ _ _ _ _ (zap n1 n2),⟨e1,e2,⟨_,_,e3⟩,e4,e5⟩,fun c hc=> ?_,q hz1 hz2⟩
   have hb2:s1.heap.objs.size<=c:=by
    simp only [List.mem_cons,List.not_mem_nil,or_false] at hc;rcases hc with rfl | rfl | rfl | rfl | rfl
    ·exact Nat.le_add_right _ _
    ·exact Nat.le_add_right _ _
    ·exact Nat.le_add_right _ _
    ·exact zO _
    ·exact Nat.le_add_right _ _
   exact I1.fpOk hb2 (I1.hok.fresh hb2)
def jT(xs ys:List D):List D:=List.zipWith (fun x y=> .tup [x,y]) xs ys
theorem Yc{K:W.Frag}{F:Hp}{t1 t2:Bool}{a b:Addr}{vs us:List V}{xs ys:List D}(hq1:∀H1,Same F H1 ->Sq t1 K H1 a vs)(hq2:∀H1,Same F H1 ->Sq t2 K H1 b us)(r1:ak K F xs vs)(r2:ak K F ys us)(hz:vs.length<=sizeLine):v7 K F yu (Q7 K t1 t2 a b) (jT xs ys):=by
 have l1:=fY r1;have l2:=fY r2;have lz:(jT xs ys).length=min xs.length ys.length:=List.length_zipWith;refine⟨by omega,fun i H2 F2 s2 s3 _=>⟨fun e=>⟨vs,us,hq1 H2 (s2.trans s3),hq2 H2 (s2.trans s3),by omega⟩,fun d hd=> ?_⟩⟩
 unfold jT at hd;rw[List.getElem?_zipWith] at hd;cases e1:xs[i]? with
 | none=>rw[e1] at hd;cases hd
 | some x=>
  cases e2:ys[i]? with
  | none=>rw[e1,e2] at hd;cases hd
  | some y=>
   rw[e1,e2] at hd;cases hd;obtain⟨v,hv,rv⟩:=nP r1 e1;obtain⟨u,hu,ru⟩:=nP r2 e2;refine⟨⟨vs,us,v,u,hq1 H2 (s2.trans s3),hq2 H2 (s2.trans s3),hv,hu⟩,fun w H' z=> ?_⟩;obtain⟨c,v2,u2,rfl,hc,rfl,z1,z2⟩:=z;have:=z1 vs (hq1 H2 (s2.trans s3));rw[hv] at this;cases this;have:=z2 us (hq2 H2 (s2.trans s3));rw[hu] at this;cases this;have gr:=Gr.laid (o:=HO.tup [v,u]) s3 hc;refine⟨_,gr,?_⟩;unfold Rep;exact⟨c,_,rfl,.inl (.inl jL),oU ((rv.up s2).up gr.f) (oU ((ru.up s2).up gr.f) (by unfold ak;rfl))⟩
def sqD:D ->Option (Bool×List D) | .lst xs=>some (false,xs) | .tup xs=>some (true,xs) | _=>none
def FP(t:aZ):aZ:=fun Γ P E=>t Γ (fun ds Γ1=>match ds with | [x,y]=>(match x,y with | .lst xs,.lst ys=>P (jT xs ys) Γ1 | .tup xs,.tup ys=>P (jT xs ys) Γ1 | _,_=>False) | _=>False) E
section
variable{X:Cx}{F0 H0:Hp}{a b e tg:Expr}{es:List Expr}{pos p pt:Pos}{te:aG}{t:aZ}{elts:List Expr}
theorem Q9{x1}(hc:X.calm=true)(hg:Gl X "zip")(hm:X.mg "zip" =none)(ha:QA X F0 H0 [a,b] t)(hs:starEach [a,b] X.env=(false,eval a X.env)::starEach [b] X.env:=by rfl)(hpl:(backTo pos (starEach [b] X.env)).any (·.1)=false:=by rfl):
  QI X F0 H0 (.Tuple elts x1 pt) (.Call (.Name "zip" p) [a,b] [] pos) (FP t):=fun z E cx=>Az (z41 (X:=X.wsh z) hg hm (ha z E cx) hs hpl) fun σ H R hq2=>by obtain⟨F,Γ,P,S,q,k⟩:=hq2;exact⟨F,Γ,_,S,q,fun ds Γ1 F1 H1 vs R1 s1 r1 h1=>by
  unfold FP at*;split at h1
  ·split at h1
   ·unfold ak ak ak Rep at r1;obtain⟨v,_,rfl,⟨l,us,rfl,hq,rs⟩,⟨v2,_,rfl,⟨l2,Ra,rfl,hq2,Bf⟩,rfl⟩⟩:=r1;exact⟨false,false,l,l2,us,Ra,rfl,R1.g.seq hq,R1.g.seq hq2,fun hz _=>k _ Γ1 F1 H1 _ R1 s1 (Yc (t1:=false) (t2:=false) (fun H s=>s.seq hq) (fun H s=>s.seq hq2) rs Bf hz) h1⟩
   ·unfold ak ak ak Rep at r1;obtain⟨v,_,rfl,⟨l,us,rfl,hq,rs⟩,⟨v2,_,rfl,⟨l2,Ra,rfl,hq2,Bf⟩,rfl⟩⟩:=r1;exact⟨true,true,l,l2,us,Ra,rfl,j4 R1.g hq,j4 R1.g hq2,fun hz _=>k _ Γ1 F1 H1 _ R1 s1 (Yc (t1:=true) (t2:=true) (fun H s=>j4 s hq) (fun H s=>j4 s hq2) rs Bf hz) h1⟩
   ·exact h1.elim
  ·exact h1.elim⟩
end
def wj:List Str ->List D ->Str ->Option D
 | f::fs,d::ds,g=>if g=f then some d else wj fs ds g
 | _,_,_=>none
def aaP(C:Addr)(f:Str)(te:aG):aG:=fun Γ P E=>te Γ (fun d Γ1=>match d with | .obj C' fs ds=>C' =C/\∃x,wj fs ds f=some x/\P x Γ1 | _=>False) E
def Yd(C:Addr)(m:Str)(sp:cD)(te:aG)(t:aZ):aG:=fun Γ P E=>te Γ (fun d Γ1=>match d with
 | .obj C' fs ds=>C' =C/\m∉fs/\t Γ1 (fun es Γ2=>sp (.obj C' fs ds::es) (fun r=>P r Γ2) fun Cx=>E Γ2 Cx) E
 | _=>False) E
section
variable{X:Cx}{F0 H0:Hp}{e o:Expr}{es:List Expr}{pos p apos:Pos}{f m:Str}{C fa:Addr}{fd:FuncData}{ps:List Str}{k:Nat}{sp:cD}{te:aG}{t:aZ}
end
def yJ(K:W.Frag)(C:Addr)(f:Str)(sp:cD):Sp:=fun vs H Q E=>∃x dx rest F ds Pd Ex,vs= .ref x::rest/\H x=some (.ins C dx [])/\H dx=some (.own x)/\dx≠x/\Same F H/\F x=none/\F dx=none/\ak K F ds rest/\sp ds Pd Ex/\
 (∀d F' H' H3 v,Gr F H F' H3 ->Rep K F' d v ->Pd d ->H' =upd H3 x (.ins C dx [(f,v)]) ->Q .non H')/\∀C' H',Ex C' ->Same H H' ->E C' none H'
def Ye(C:Addr)(f:Str)(sp:cD):cD:=fun ds P E=>sp ds (fun d=>P (.obj C [f] [d])) E
section
variable{P:Program}{w:World}{K:W.Frag}{mg:Str ->Option Value}{base:Heap}
end
section
variable{X:Cx}{F0 H0:Hp}{e:Expr}{es:List Expr}{pos p:Pos}{x fl:Str}{C f:Addr}{fd:FuncData}{ps:List Str}{k:Nat}{sp:cD}{t:aZ}
end
structure Mt2 (P:Program) (w:World) (K:W.Frag) (mg:Str ->Option Value) (base:Heap) (C:Addr) (m:Str) (k:Nat) (ps:List Str) (sp:cD):Prop where
 ex:∃f fd,dX P w K mg base (gK P w) k f fd ps (jR K sp)/\Meth K C m f/\Binds K fd ps []
structure Mk2 (P:Program) (w:World) (K:W.Frag) (mg:Str ->Option Value) (base:Heap) (x:Str) (C:Addr) (fl:Str) (k:Nat) (ps:List Str) (sp:cD):Prop where
 ex:∃f fd,dX P w K mg base (gK P w) k f fd ps (yJ K C fl sp)/\Mk K C f/\mg x=some (.ref C)/\Binds K fd ps []
def aaQ(te:aG)(tl th:uw):aG:=fun Γ P E=>te Γ (fun d Γ1=>tl Γ1 (fun l Γ2=>th Γ2 (fun u Γ3=>match d with | .tup xs=>¬(HT.sIx xs.length 0 l=0/\HT.sIx xs.length xs.length u=xs.length)/\P (.tup (cutD xs l u)) Γ3 | _=>False) E) E) E
section
variable{X:Cx}{F0 H0:Hp}{e o:Expr}{lo hi:Option Expr}{es:List Expr}{pos p p2 apos:Pos}{x m fl:Str}{C:Addr}{ps:List Str}{k:Nat}{sp:cD}{te:aG}{tl th:uw}{t:aZ}
def aaR:cD:=fun _ _ _=>False
end
mutual
def vh:D ->Prop
 | .lst _=>False
 | .exc _=>False
 | .dic _ _=>False
 | .dG _ _=>False
 | .nO _ _=>False
 | .tup xs=>nZ xs
 | .obj _ fs xs=>rM fs=false/\nZ xs
 | _=>True
def nZ:List D ->Prop
 | []=>True
 | d::ds=>vh d/\nZ ds
end
section
variable{K:W.Frag}{F F' :Hp}{A:Addr ->Prop}
end
def Yg(te:aG):aG:=fun Γ P _=>te (jq Γ) (fun d _=>vh d/\P d Γ) j7
section
variable{X:Cx}{F0 H0:Hp}{e:Expr}{te:aG}
open Classical in
end
theorem Yh{K:W.Frag}{F:Hp}{d:D}{v:V}(h:Rep K F d v):∀{ds:List D} {vs:List V} (j:Nat),ak K F ds vs ->ak K F (ds.set j d) (vs.set j v)
 | [],vs,j,r=>by unfold ak at r;subst r;unfold ak;rfl
 | x::ds,vs,j,r=>by
  unfold ak at r;obtain⟨u,us,rfl,r1,r2⟩:=r;cases j with
  | zero=>exact oU h r2
  | succ j=>exact oU r1 (Yh h j r2)
def yK(i:Nat)(ti te:aG):au:=fun D Γ E=>te Γ (fun d Γ1=>(∃xs,Γ1[i]?=some (.ow xs))/\ti Γ1 (fun k Γ2=>match k,Γ2[i]? with
 | .int k,some (.ow xs)=>∃j,qC xs.length k=some j/\D.nx (Γ2.set i (.ow (xs.set j d)))
 | _,_=>False) E) E
section
variable{X:Cx}{F0 H0:Hp}{x:Str}{pos pos' npos:Pos}{e k:Expr}{i:Nat}{te ti:aG}
theorem Yi(hN:X.N[i]?=some x)(hv:mU X.env.scope x)(hk:QE X F0 H0 k ti)(he:QE X F0 H0 e te)(hd:(x==("__debug__" :Str))=false:=by decide)(hcd:(x==("__classdict__" :Str))=false:=by decide)
  (ha:∀v,assign (.Subscript (.Name x npos) k pos') X.env v=(do
   let ov<- holding [v] (eval (.Name x npos) X.env)
   let iv<- holding [v,ov] (eval k X.env)
   standAt pos'
   holding [v,ov,iv] (setItem ov iv v)
   release [v,ov,iv] []):=by intro _;rfl)
  (hs:swapsWithSole [.Subscript (.Name x npos) k pos'] e pos.line X.env=pure false:=by rfl) (hw:swappedStores [.Subscript (.Name x npos) k pos'] e X.env=pure none:=by rfl)
  (h1:(assignEach [.Subscript (.Name x npos) k pos'] X.env).map (·.2)= [assign (.Subscript (.Name x npos) k pos') X.env]:=by rfl):
  QS X F0 H0 (.Assign [.Subscript (.Name x npos) k pos'] e pos) (yK i ti te):=fun z E cx=>
 lY (z40 (X:=X.wsh z) (he z E cx) (z4p (X:=X.wsh z) (o7 (X:=X.wsh z) (i:=i) hN hv hd hcd) (hk z E cx) zxf ha) hs hw h1) fun Dn σ H hq1=>by obtain⟨F,Γ,D2,R,h,kk⟩:=hq1;exact⟨F,Γ,_,R,h,fun d Γ1 F1 H1 v R1 s1 r1 h1=>by
  obtain⟨⟨xs,e0⟩,h2⟩:=h1;obtain⟨o,e1,a,vs,rfl,g1,g2,g3,r⟩:=R1.sl i _ e0;refine⟨.ref a,e1,F1,Γ1,_,R1,h2,fun k Γ2 F2 H2 kv R2 s2 rk q=> ?_⟩;split at q
  ·rename_i k' xs' e2;obtain⟨j,hj,q⟩:=q;obtain⟨o,e3,a',ws,rfl,w1,w2,w3,jD⟩:=R2.sl i _ e2;rw[e1] at e3;cases e3;unfold Rep at rk;subst rk;have hl:=fY jD;refine⟨a,ws,k',j,rfl,rfl,w1,by rw[<- hl];exact hj,?_⟩
   exact kk.nx _ _ _ _ (R2.wr e2 e1 (Yh (r1.up s2) j jD)) (s1.trans s2) q
  ·exact q.elim⟩
end
section
variable(K:W.Frag)(F0 H0:Hp)
def upR(t:aG)(E:XW):TE:=fun σ H Q=>∃F Γ P,SR K F0 H0 F H σ Γ/\t Γ P E/\∀d Γ' F' H' v,SR K F0 H0 F' H' σ Γ' ->Same F F' ->Rep K (pZ F0 F') d v ->P d Γ' ->Q v H'
def Rb(t:aZ)(E:XW):TA:=fun σ H Q=>∃F Γ P,SR K F0 H0 F H σ Γ/\t Γ P E/\∀ds Γ' F' H' vs,SR K F0 H0 F' H' σ Γ' ->Same F F' ->ak K (pZ F0 F') ds vs ->P ds Γ' ->Q vs H'
end
def QR(X:Cx)(F0 H0:Hp)(e:Expr)(t:aG):Prop:=∀z E,Ctx (X.wsh z) F0 H0 E ->PE (X.wsh z) e (upR X.K F0 H0 t E)
def QRA(X:Cx)(F0 H0:Hp)(es:List Expr)(t:aZ):Prop:=∀z E,Ctx (X.wsh z) F0 H0 E ->PA (X.wsh z) es (Rb X.K F0 H0 t E)
section
variable{X:Cx}{F0 H0:Hp}{e:Expr}{es:List Expr}{pos:Pos}{te:aG}
def cNl(te:aG):aG:=fun Γ P E=>te Γ (fun d Γ1=>vh d/\P d Γ1) E
def aaS(i:Nat):aG:=fun Γ P _=>match Γ[i]? with
 | some (.ow ds)=>nZ ds/\P (.lst ds) (Γ.set i (.pu (.lst ds)))
 | _=>False
def aaT(t:aZ):aG:=fun Γ P E=>t Γ (fun ds Γ1=>nZ ds/\P (.lst ds) Γ1) E
def Yj(te:aG):au:=fun D Γ E=>te Γ (fun d _=>D.rf d) E
end
def FQ(K:W.Frag)(sp:cD):Sp:=fun vs H Q E=>∃F ds P Ex,Same F H/\ak K F ds vs/\sp ds P Ex/\ (∀d v F' H',Gr F H F' H' ->Rep K (pZ F F') d v ->P d ->Q v H')/\∀C H',Ex C ->Same H H' ->E C none H'
structure aaU (P:Program) (w:World) (K:W.Frag) (mg:Str ->Option Value) (base:Heap) (x:Str) (k:Nat) (ps:List Str) (sp:cD):Prop where
 ex:∃f fd,dX P w K mg base (gK P w) k f fd ps (FQ K sp)/\mg x=some (.ref f)/\W.keepIn K (.ref f)=true/\Binds K fd ps []
section
variable{P:Program}{w:World}{K:W.Frag}{mg:Str ->Option Value}{base:Heap}
end
section
variable{X:Cx}{F0 H0:Hp}{e:Expr}{es:List Expr}{pos p:Pos}{x:Str}{f:Addr}{fd:FuncData}{ps:List Str}{k:Nat}{sp:cD}{t:aZ}{te:aG}
def Rf(te:aG):aG:=fun Γ P _=>te (jq Γ) (fun d _=>P d Γ) j7
open Classical in
end
def aaV(tf:aZ)(tb:aG):aZ:=fun Γ P E=>tf Γ (fun xs Γ1=>tb Γ1 (fun d Γ2=>match d with | .int k=>(-(2^63)<=k/\k<2^63/\xs.length*k.toNat<=sizeLine)/\P (List.replicate k.toNat xs).flatten Γ2 | _=>False) E) E
section
variable{X:Cx}{F0 H0:Hp}{a b:Expr}{pos:Pos}{tf:aZ}{tb:aG}
end
def Bk{α:Type}(lt:Nat ->Nat ->Bool):W.KasT α ->α
 | .ret a=>a
 | .ask i j k=>Bk lt (k (lt i j))
def yL{α:Type}(lt:Nat ->Nat ->Bool)(n:Nat):W.KasT α ->Bool
 | .ret _=>true
 | .ask i j k=>decide (i<n)&&(decide (j<n)&&(decide (i≠j)&&yL lt n (k (lt i j))))
theorem Yk(hc:∀i j (C:Bool ->Shared ->Prop),i<n ->j<n ->i≠j ->C (lt i j) s ->cmp i j C s):
  ∀(t:W.KasT α) (Q:α ->Shared ->Prop),yL lt n t=true ->Q (Bk lt t) s ->t.kasWp cmp Q s
 | .ret _,_,_,h=>h
 | .ask i j k,Q,ok,h=>by
  unfold yL at ok;simp only [Bool.and_eq_true,decide_eq_true_eq] at ok;exact hc i j _ ok.1 ok.2.1 ok.2.2.1 (Yk hc (k (lt i j)) Q ok.2.2.2 h)
def Rg(h:Heap)(v:Value)(i:Int):Prop:=∃(x:Addr) (o:Obj) (xs:Array Value) (m:Nat) (t:Tok),v= .ref x/\h.get? x=some o/\o.cls= .type "tuple" /\o.data= .seq xs m/\xs[0]?=some (.int i t)
inductive sJ (h:Heap):List Value ->List Int ->Prop
 | nil:sJ h [] []
 | cons {v i vs is}:Rg h v i ->sJ h vs is ->sJ h (v::vs) (i::is)
def ltI(ns:List Int)(i j:Nat):Bool:=decide (ns.getD i 0<ns.getD j 0)
def sO(ns:List Int):List Nat:=if ns.length<2 then List.range ns.length else(Bk (ltI ns) (W.kas_sort ns.length)).toList
def FT(ns:List Int):Prop:=ns.length<2\/ (ns.length<64/\ns.Nodup/\yL (ltI ns) ns.length (W.kas_sort ns.length)=true)
section
variable{prog:Program}{w:World}{A:Around}{E:bH}{s:Shared}
theorem zvr{vs:List Value}{p:Array Nat}(hp:p.size=vs.length):(List.toArray (p.toList.map fun i=>vs.getD i Value.none)).size=vs.length:=by simp [hp]
end
def Yl:List D ->Option (List Int)
 | []=>some []
 | .tup (.int i::_)::r=>(Yl r).map (i:: ·)
 | _::_=>none
def z3k:List D ->(List D ->Prop) ->Prop:=fun ds P=>match ds with | [.lst xs]=>∃ns,Yl xs=some ns/\FT ns/\ (∀i∈sO ns,i<ns.length)/\ (sO ns).length<=sizeLine/\P ((sO ns).map fun i=>xs.getD i .non) | _=>False
theorem Ym(h:Vals xs us):∀{is:List Nat},(∀i∈is,i<xs.length) ->Vals (is.map fun i=>xs.getD i .non) (is.map fun i=>us.getD i Value.none)
 | [],_=> .nil
 | i::is,k=>by
  have hi:=k i zY;obtain⟨u,hu,ru⟩:=h.get (zZ hi);refine .cons ?_ (Ym h fun j hj=>k j (zX _ hj));show RelV (xs.getD i .non) (us.getD i Value.none);rw[List.getD_eq_getElem?_getD,List.getD_eq_getElem?_getD,List.getElem?_eq_getElem hi,hu];exact ru
theorem Yn{K:W.Frag}{F:Hp}{ds:List D}{vs:List V}(h:ak K F ds vs):∀{is:List Nat},(∀i∈is,i<ds.length) ->ak K F (is.map fun i=>ds.getD i .non) (is.map fun i=>vs.getD i .non)
 | [],_=>by simp [ak]
 | i::is,k=>by
  have hi:=k i zY;obtain⟨v,hv,rv⟩:=nP h (zZ hi);refine oU ?_ (Yn h fun j hj=>k j (zX _ hj));show Rep K F (ds.getD i .non) (vs.getD i .non);rw[List.getD_eq_getElem?_getD,List.getD_eq_getElem?_getD,List.getElem?_eq_getElem hi,hv];exact rv
def qN(xs:List Nat):Prop:=xs.Pairwise (· < ·)
theorem FW(h:qN xs)(hij:i<j)(hj:j<xs.length):xs[i]'(Nat.lt_trans hij hj)<xs[j]:=List.pairwise_iff_getElem.mp h i j _ hj hij
structure JZ (xs:List Nat) (j b:Nat):Prop where
 le:b<=xs.length
 lo:∀(k:Nat) (h:k<xs.length),k<b ->xs[k]<j
 hi:∀(k:Nat) (h:k<xs.length),b<=k ->j<=xs[k]
theorem Rh(hr:qN xs.toList):∀(f lo hi:Nat),lo<=hi ->hi<=xs.toList.length ->hi - lo<=f ->(∀(k:Nat) (h:k<xs.toList.length),k<lo ->xs.toList[k]<j) ->(∀(k:Nat) (h:k<xs.toList.length),hi<=k ->j<=xs.toList[k]) ->JZ xs.toList j (SetTable.below.go xs j f lo hi)
 | 0,lo,hi,h1,h2,h3,h4,h5=>by
  unfold SetTable.below.go;obtain rfl:lo=hi:=by omega
  exact⟨h2,h4,h5⟩
 | f+1,lo,hi,h1,h2,h3,h4,h5=>by
  unfold SetTable.below.go;by_cases hl:lo<hi
  ·rw[if_pos hl];have hm1:lo<=(lo+hi)/2:=by omega
   have hm2:(lo+hi)/2<hi:=by omega
   have hm:(lo+hi)/2<xs.toList.length:=by omega
   have hg:xs.getD ((lo+hi)/2) j=xs.toList[(lo+hi)/2]:=by
    have:(lo+hi)/2<xs.size:=by simpa using hm
    simp [Array.getD,this]
   dsimp only;rw[hg];by_cases hc:xs.toList[(lo+hi)/2]<j
   ·rw[if_pos hc];refine Rh hr f _ hi (by omega) h2 (by omega) (fun k hk hlt=> ?_) h5
    by_cases e:k=(lo+hi)/2
    ·subst e;exact hc
    ·exact Nat.lt_trans (FW hr (by omega:k< (lo+hi)/2) hm) hc
   ·rw[if_neg hc];refine Rh hr f lo _ (by omega) (by omega) (by omega) h4 fun k hk hle=> ?_
    by_cases e:k=(lo+hi)/2
    ·subst e;omega
    ·have:=FW hr (by omega:(lo+hi)/2<k) hk
     omega
  ·rw[if_neg hl];obtain rfl:lo=hi:=by omega
   exact⟨h2,h4,h5⟩
theorem Yo(hr:qN xs.toList)(j:Nat):JZ xs.toList j (SetTable.below xs j):=by
 unfold SetTable.below;exact Rh hr _ 0 _ (Nat.zero_le _) (by simp) (by omega) (fun k _ h=>by omega) fun k hk h=>by simp at hk;omega
theorem z3z(h:JZ xs j b)(k:JZ xs j c):b=c:=by
 rcases Nat.lt_trichotomy b c with q | q | q
 ·have hb:b<xs.length:=zN q k.le;have:=k.lo b hb q;have:=h.hi b hb (zO _);omega
 ·exact q
 ·have hc:c<xs.length:=zN q h.le;have:=h.lo c hc q;have:=k.hi c hc (zO _);omega
theorem z1s(hr:qN xs.toList)(hn:xs[SetTable.below xs j]?≠some j):qN (SetTable.insertAt xs (SetTable.below xs j) j).toList:=by
 rw[SetTable.toList_insertAt];have hb:=Yo hr j;generalize SetTable.below xs j=b at*;have hn' :∀(h:b<xs.toList.length),xs.toList[b]≠j:=fun h e=>hn (by rw[<- Array.getElem?_toList,List.getElem?_eq_getElem h,e])
 unfold qN;rw[List.pairwise_append];refine⟨hr.take,?_,fun a ha c hc=> ?_⟩
 ·rw[List.pairwise_cons];refine⟨fun c hc=> ?_,hr.drop⟩;obtain⟨k,hk,rfl⟩:=List.mem_iff_getElem.mp hc;rw[List.length_drop] at hk;rw[List.getElem_drop];have h1:=hb.hi (b+k) (by omega) (by omega)
  by_cases e:k=0
  ·subst e;have:=hn' (by omega)
   simp only [Nat.add_zero] at h1⊢;omega
  ·have:=FW hr (by omega:b<b+k) (by omega)
   have:=hb.hi b (by omega) (zO _)
   omega
 ·obtain⟨k,hk,rfl⟩:=List.mem_iff_getElem.mp ha;rw[List.length_take] at hk;rw[List.getElem_take];have h1:=hb.lo k (by omega) (by omega)
  rcases zV.mp hc with rfl | hc
  ·exact h1
  ·obtain⟨m,hm,rfl⟩:=List.mem_iff_getElem.mp hc;rw[List.length_drop] at hm;rw[List.getElem_drop];have:=hb.hi (b+m) (by omega) (by omega)
   omega
theorem zrk(hr:qN xs.toList)(hi:i<=xs.toList.length):SetTable.below xs (if h:0<i then xs.toList[i - 1]'(by omega)+1 else 0)=i:=by
 refine z3z (Yo hr _) ⟨hi,fun k hk hlt=> ?_,fun k hk hle=> ?_⟩
 ·rw[dif_pos (by omega)]
  by_cases e:k=i - 1
  ·subst e;exact Nat.lt_succ_self _
  ·have:=FW hr (by omega:k<i - 1) (by omega)
   omega
 ·split
  ·rename_i h0;have:=FW hr (by omega:i - 1<k) hk
   omega
  ·exact Nat.zero_le _
structure qO (led:Bool) (t:SetTable):Prop where
 J0:qN t.place.toList
 J1:t.dummies= #[]
 led:t.led=led
theorem ztx:qO led (.fresh 0 0 led):=⟨by simp [SetTable.fresh,qN],rfl,rfl⟩
theorem zvw(n:Nat):qN (Array.range n).toList:=by
 unfold qN;rw[Array.toList_range];exact List.pairwise_lt_range
theorem J2(h:qO led t)(n:Nat):qO led (t.standIn n):=⟨zvw n,rfl,h.led⟩
theorem zt4(h:qO led t):qO led {t with plain:=false}:=⟨h.J0,h.J1,h.led⟩
theorem Yp(j:Nat):SetTable.has #[] j=false:=by simp [SetTable.has]
theorem Yq{t:SetTable}(hd:t.dummies= #[]){j:Nat}:(t.slot j= .empty ->t.place[SetTable.below t.place j]?≠some j)/\t.slot j≠ .dummy:=by
 unfold SetTable.slot;rw[hd,Yp];dsimp only;split
 ·exact⟨fun z=>(by cases z),fun z=>(by cases z)⟩
 ·rename_i q;simp only [Bool.false_eq_true,if_false];exact⟨fun _=>(by simpa using q),fun z=>(by cases z)⟩
theorem Yr{t:SetTable}(hd:t.dummies= #[]){ha:Nat ->Int}{h:Int}:∀(f:Nat) (p:SetTable.Probe) {j:Nat} {dm:Option Nat},p.dummy=none ->SetTable.probe.go t ha h f p=some (.empty j dm) ->dm=none/\t.slot j= .empty
 | 0,p,j,dm,_,e=>by unfold SetTable.probe.go at e;cases e
 | f+1,p,j,dm,hp,e=>by
  have adv:(t.advance p).dummy=none:=by
   unfold SetTable.advance;split<;>exact hp
  unfold SetTable.probe.go at e;split at e
  ·rename_i q;cases e;exact⟨hp,q⟩
  ·rename_i q;exact absurd q (Yq hd).2
  ·rename_i i q;split at e
   ·cases e
   ·exact Yr hd f _ adv e
theorem z2m{led:Bool}{t:SetTable}(h:qO led t)(es:Array (Int×Value))(k:Int)(x:Value):qO led (layNew t es k x).2.1:=by
 unfold layNew;split
 ·rename_i slot wd q;unfold SetTable.freeSlot at q;split at q
  ·rename_i j dm e;cases q;obtain⟨rfl,hs⟩:=Yr h.J1 _ _ rfl e;have hn:=(Yq h.J1).1 hs;dsimp only [Option.getD_none];have hp:qO led (t.put j).1:=⟨z1s h.J0 hn,by show(if SetTable.has t.dummies j=true then _ else t.dummies)= #[];rw[h.J1,Yp];rfl,h.led⟩
   unfold SetTable.orStandIn;split
   ·exact hp
   ·exact J2 hp _
  ·cases q
 ·exact J2 h _
theorem zsc(h:qO led t)(es:Array (Int×Value))(n:Nat):qO led (relayAll t es n).2.1:=by
 unfold relayAll;split
 ·rename_i t' order q;dsimp only;split
  ·unfold SetTable.relaid SetTable.laid at q;cases e:SetTable.layClean (SetTable.sizeAbove n - 1) (es.map (·.1)) with
   | none=>rw[e] at q;cases q
   | some owner=>
    rw[e] at q;cases q;refine⟨?_,rfl,h.led⟩;show qN (((List.range (SetTable.sizeAbove n - 1+1)).filterMap fun j=>(owner.getD j none).map (j, ·)).map (·.1));have sub:∀l:List Nat,((l.filterMap fun j=>(owner.getD j none).map (j, ·)).map (·.1)).Sublist l:=by
     intro l;induction l with
     | nil=>exact List.Sublist.refl _
     | cons a r ih=>
      rw[List.filterMap_cons];cases owner.getD a none with
      | none=>exact ih.cons _
      | some v=>exact ih.cons₂ _
    exact List.Pairwise.sublist (sub _) List.pairwise_lt_range
  ·exact J2 h _
 ·exact J2 h _
section
variable{prog:Program}{w:World}{κ:Type}[DecidableEq κ](knd:KeyKind prog w κ)(kf:Value ->κ)
structure iH (led:Bool) (o:Obj) (ks:List κ) (es:Array (Int×Value)) (ep:Nat) (t:SetTable):Prop where
 ex:o.ExactSet
 dat:o.data= .set es ep t
 el:ElemsOf knd es.toList
 fit:t.fits es.size=true
 tok:qO led t
 key:(es.toList.map fun e=>kf e.2).Perm ks
def kh(led:Bool)(h:Heap)(a:Addr)(ks:List κ):Prop:=∃o es ep t,h.get? a=some o/\iH knd kf led o ks es ep t
def jr(ks:List κ)(k:κ):List κ:=if k∈ks then ks else ks++ [k]
variable{knd kf}(hkf:∀k v,knd.is k v=true ->kf v=k)
include hkf
theorem z0f(el:ElemsOf knd es):k∈es.map (fun e=>kf e.2)↔∃e∈es,knd.is k e.2=true:=by
 rw[List.mem_map];constructor
 ·rintro⟨e,he,rfl⟩;obtain⟨⟨k',hk',_⟩,_⟩:=el e he;exact⟨e,he,by rw[hkf k' _ hk'];exact hk'⟩
 ·rintro⟨e,he,hk⟩;exact⟨e,he,hkf k _ hk⟩
variable{A:Around}{E:bH}{s:Shared}{a:Addr}{ks:List κ}{led:Bool}
theorem Ys{h:Heap}{o:Obj}{es:Array (Int×Value)}{ep:Nat}{t:SetTable}(hg:h.get? a=some o)(hd:o.data= .set es ep t)(es' :Array (Int×Value))(t' :SetTable):
  (h.update a (Obj.putSet es' t')).get? a=some {o with data:= .set es' (ep+1) t'}:=by
 have z:=Heap.get?_update_self (Obj.putSet es' t') hg (by rw[putSet_of es' t' hd];rfl)
 rwa [putSet_of es' t' hd] at z
omit hkf in
theorem iH.put(S:iH knd kf led o ks es ep t)(el:ElemsOf knd es'.toList)(fit:t'.fits es'.size=true)(tok:qO led t')(key:(es'.toList.map fun e=>kf e.2).Perm ks'):
  iH knd kf led {o with data:= .set es' (ep+1) t'} ks' es' (ep+1) t' :=⟨S.ex,rfl,el,fit,tok,key⟩
theorem z3v{k:κ}{x:Value}{Q:Bool ->Shared ->Prop}(hx:knd.is k x=true)(hsc:x.scannable=true)(S:kh knd kf led s.heap a ks)(hb:ks.length+1<scanBound)
  (h:∀b h',Heap.SameBut a s.heap h' ->kh knd kf led h' a (jr ks k) ->Q b {s with heap:=h'}):wpAny (model prog w) A (setAddHashed a x (knd.hash k)) Q E s:=by
 obtain⟨o,es,ep,t,hg,S⟩:=S;have hsz:es.size=ks.length:=by
  have:=S.key.length_eq
  simpa using this
 have hmem:=z0f hkf S.el (k:=k);unfold setAddHashed setAddHashedIn;refine wpAny_holding (vs:= [x]) (z6 (m:=setState a) (wpAny_setState_of hg S.dat S.fit ?_));dsimp only;rw[byScan_of hsc (by omega:es.size<scanBound) S.el]
 simp only [↓reduceIte];unfold setAddByScan;refine z6 (z6 (m:=rule _) (wpAny_rule (z6 (m:=setScan a x _ _ _) (wpAny_setScan_of hx hg S.dat S.fit S.el ?_))));cases hr:List.findIdx? (fun e=>knd.is k e.2) es.toList with
 | some j=>
  dsimp only;obtain⟨hj,hpj,_⟩:=List.findIdx?_eq_some_iff_getElem.mp hr;have hk:k∈ks:=S.key.mem_iff.mp (hmem.mpr ⟨_,yZ hj,hpj⟩);refine z7 (α:=_) (z7 (α:=_) ?_);have z:=h false s.heap (Heap.SameBut.refl a s.heap) ⟨o,es,ep,t,hg,by unfold jr;rw[if_pos hk];exact S⟩
  exact z
 | none=>
  dsimp only;have hk:k∉ks:=fun q=>by
   obtain⟨e,he,hp⟩:=hmem.mp (S.key.mem_iff.mpr q);have:=List.findIdx?_eq_none_iff.mp hr e he;rw[hp] at this;cases this
  have hperm:=layNew_perm t es (knd.hash k) x;have hfits:=layNew_fits t es (knd.hash k) x;have sS:=z2m S.tok es (knd.hash k) x;generalize layNew t es (knd.hash k) x=lay at hperm hfits sS⊢;obtain⟨es1,t1,wd,gave⟩:=lay;dsimp only at hperm hfits sS⊢;rw[Array.toList_push] at hperm;have el1:ElemsOf knd es1.toList:=(S.el.push hx hsc).perm hperm;have key1:(es1.toList.map fun e=>kf e.2).Perm (jr ks k):=by
   unfold jr;rw[if_neg hk];refine(hperm.map _).trans ?_;rw[List.map_append];refine List.Perm.append S.key ?_;show [kf x].Perm [k];rw[hkf k x hx]
  have sz1:es1.size=es.size+1:=by
   have:=hperm.length_eq
   simpa using this
  have FZ:es1.size<=sizeLine:=fits_of_scanBound (by omega)
  have gw:∀(b:Bool) {s₁:Shared} {Q' :Unit ->Shared ->Prop},Q' () s₁ ->wpAny (model prog w) A (match b with | true=>rule "set.scan.the-table-gave-way" | false=>pure ()) Q' E s₁:=
   fun b s₁ Q' q=>by
    cases b with
    | true=>exact wpAny_rule q
    | false=>exact z7 (α:=_) q
  have tail:∀t2:SetTable,t2.fits es1.size=true ->qO led t2 ->wpAny (model prog w) A (do
    storeSet a es1 t2
    if (!wd&&t2.tooFull)=true then do
      (match (relayAll t2 es1 (SetTable.grown es1.size)).2.2 with | true=>rule "set.scan.the-table-gave-way" | false=>pure ())
      storeSet a (relayAll t2 es1 (SetTable.grown es1.size)).1 (relayAll t2 es1 (SetTable.grown es1.size)).2.1
      pure (some true)
     else pure (some true)) (fun r s' =>wpAny (model prog w) A (match r with | some added=>pure added | none=>setAddHashedIn a x (knd.hash k) 99999) Q E s') E s:=by
   intro t2 f2 k2;refine z6 (m:=storeSet a es1 t2) (wpAny_storeSet_of hg S.dat ?_ FZ);have g1:=Ys (hkf:=hkf) hg S.dat es1 t2;have S1:=S.put (ks' :=jr ks k) el1 f2 k2 key1;have Yt:=Heap.SameBut.update s.heap a (Obj.putSet es1 t2);split
   ·have hp2:=relayAll_perm t2 es1 (SetTable.grown es1.size);have hf2:=relayAll_fits t2 es1 (SetTable.grown es1.size);have Ri:=zsc k2 es1 (SetTable.grown es1.size);generalize relayAll t2 es1 (SetTable.grown es1.size)=rl at hp2 hf2 Ri⊢;obtain⟨es2,t3,gave2⟩:=rl;dsimp only at hp2 hf2 Ri⊢;have sz2:es2.size=es1.size:=by
     have:=hp2.length_eq
     simpa using this
    refine z6 (gw gave2 ?_);refine z6 (m:=storeSet a es2 t3) (wpAny_storeSet_of g1 rfl ?_ (by omega))
    have S2:=S1.put (ks' :=jr ks k) (el1.perm hp2) hf2 Ri ((hp2.map _).trans key1);refine z7 (α:=_) (z7 (α:=_) ?_);exact h true _ (Yt.trans (Heap.SameBut.update _ a _)) ⟨_,_,_,_,Ys (hkf:=hkf) g1 rfl es2 t3,S2⟩
   ·exact z7 (α:=_) (z7 (α:=_) (h true _ Yt ⟨_,_,_,_,g1,S1⟩))
  refine z6 (gw gave ?_);split
  ·refine z6 ?_;rw[hashByValue_scannable 8 hsc];refine z7 (α:=_) ?_;refine tail _ ?_ ?_
   ·split
    ·exact hfits
    ·exact SetTable.fits_plain_off hfits
   ·split
    ·exact sS
    ·exact zt4 sS
  ·refine z6 (z7 (α:=_) ?_);simp only [↓reduceIte];exact tail _ hfits sS
end
abbrev fW(w:World):Bool:= !(w.params.followText "set-order")
abbrev vm(w:World):Obj:={cls:= .type "set",dict:=none,data:= .set #[] 0 (.fresh 0 0 (fW w))}
def fJ{κ:Type}[DecidableEq κ](val:Nat ->κ):Nat ->List κ
 | 0=> []
 | i+1=>jr (fJ val i) (val i)
theorem Yu [DecidableEq κ](val:Nat ->κ):∀i,(fJ val i).length<=i
 | 0=>zO _
 | i+1=>by
  have ih:=Yu val i;show(jr (fJ val i) (val i)).length<=i+1;unfold jr;split
  ·omega
  ·rw[List.length_append,List.length_singleton];omega
theorem Rj [DecidableEq κ](val:Nat ->κ):∀{i},k∈fJ val i↔∃j,j<i/\val j=k
 | 0=>by simp [fJ]
 | i+1=>by
  have ih:=Rj val (k:=k) (i:=i);have e:k∈fJ val (i+1)↔k∈fJ val i\/k=val i:=by
   show k∈jr (fJ val i) (val i)↔_;unfold jr;split
   ·rename_i q;constructor
    ·exact .inl
    ·rintro(z | rfl)
     ·exact z
     ·exact q
   ·rw[List.mem_append,List.mem_singleton]
  rw[e,ih];constructor
  ·rintro(⟨j,hj,rfl⟩ | rfl)
   ·exact⟨j,by omega,rfl⟩
   ·exact⟨i,by omega,rfl⟩
  ·rintro⟨j,hj,rfl⟩;by_cases q:j=i
   ·subst q;exact .inr rfl
   ·exact .inl ⟨j,by omega,rfl⟩
theorem Yv [DecidableEq κ](val:Nat ->κ):∀i,(fJ val i).Nodup
 | 0=>List.nodup_nil
 | i+1=>by
  have ih:=Yv val i;show(jr (fJ val i) (val i)).Nodup;unfold jr;split
  ·exact ih
  ·rename_i q;rw[List.nodup_append];refine⟨ih,by simp,fun a ha b hb=> ?_⟩
   rw[List.mem_singleton] at hb;subst hb;exact fun z=>q (z ▸ ha)
theorem zwz{prog:Program}{w:World}{κ:Type}[DecidableEq κ]{knd:KeyKind prog w κ}{kf:Value ->κ}:iH knd kf (fW w) (vm w) [] #[] 0 (.fresh 0 0 (fW w)):=
 ⟨⟨rfl,rfl,rfl⟩,rfl,fun e he=>by simp at he,by rfl,ztx,by simp⟩
section
variable{prog:Program}{w:World}{κ:Type}[DecidableEq κ]{knd:KeyKind prog w κ}{kf:Value ->κ}(hkf:∀k v,knd.is k v=true ->kf v=k)
theorem kh.stay(S:kh knd kf led h a ks)(e:∀o,h.get? a=some o ->h'.get? a=some o):kh knd kf led h' a ks:=by
 obtain⟨o,es,ep,t,hg,S⟩:=S;exact⟨o,es,ep,t,e o hg,S⟩
include hkf
theorem zx9{A:Around}{R:Result ->Shared ->Prop}{I:Addr}{fp wr:List Addr}{G:Array GenState ->Array GenState ->Prop}{n:Nat}{P:Nat ->Value ->Prop}{St:Nat ->Shared ->Prop}
  (W:WalksS prog w A.in1 I fp wr G n P St) {S:Addr} (hS:S∉fp) {val:Nat ->κ} (hv:∀i v,P i v ->knd.is (val i) v=true/\v.scannable=true) (hb:n+1<scanBound) {led:Bool}:
  ∀(j i:Nat) (s:Shared),i+j=n ->St i s ->kh knd kf led s.heap S (fJ val i) ->
   (∀s',Moved (S::wr) G s s' ->kh knd kf led s'.heap S (fJ val n) ->R (.ok (.ret .none)) s') ->codeAny (model prog w) A (.builtin "set.update.loop" ⟨[.ref S,.ref I],[]⟩) R s:=by
 have hw:S∉wr:=fun q=>hS (W.sub _ q);have grow:∀b∈wr,b∈S::wr:=fun b q=>zX _ q;intro j;induction j with
 | zero=>
  intro i s hij st hs hR;obtain rfl:i=n:=by omega
  refine codeAny_builtin PyProof.Rows.F.entry_set_update_loop ?_;rw[Around.under_plainId PyProof.Rows.F.plain_set_update_loop _];show wpAny _ _ (pyNext (.ref I)>>=_) _ _ _;refine z6 (m:=pyNext (.ref I)) (W.done s _ _ st fun s' hm=> ?_);show wpAny _ _ (ret Value.none) _ _ _;exact z7 (α:=_) (hR s' (hm.mono grow) (hs.stay fun o e=>hm.heap S o hw e))
 | succ j ih=>
  intro i s hij st hs hR;refine codeAny_builtin PyProof.Rows.F.entry_set_update_loop ?_;rw[Around.under_plainId PyProof.Rows.F.plain_set_update_loop _];show wpAny _ _ (pyNext (.ref I)>>=_) _ _ _;refine z6 (m:=pyNext (.ref I)) (W.item i s _ _ (by omega) st fun v s1 hP st1 hm=> ?_)
  obtain⟨hk,hc⟩:=hv i v hP;have hs1:=hs.stay (h' :=s1.heap) fun o e=>hm.heap S o hw e;show wpAny _ _ (holding [v] (setAdd S v)>>=_) _ _ _;refine z6 (m:=holding [v] (setAdd S v)) (wpAny_holding (vs:= [v]) ?_);unfold setAdd;refine wpAny_holding (vs:= [v]) (z6 (m:=pyHash v) (knd.pyHash hk ?_));refine z3v hkf (s:={s1 with toks:=s1.toks+1}) hk hc hs1 (by have:=Yu val i;omega) fun _ h2 sb S2=> ?_
  refine z7 (α:=_) ⟨plainId_quiet PyProof.Rows.F.plain_set_update_loop _,ih (i+1) _ (by omega) (W.frame _ s1 h2 _ st1 (Nat.le_succ _) fun b hb o e=> ?_) S2 fun s3 hm3 S3=> ?_⟩
  ·exact(sb.2 b fun z=>hS (z ▸ hb)).trans e
  ·refine hR s3 (Moved.trans W.gtrans ((hm.mono grow).then_heap (Nat.le_succ _) fun b o hb e=> ?_) hm3) S3;exact(sb.2 b fun z=>hb (z ▸ zY)).trans e
end
section
variable{prog:Program}{w:World}{A:Around}{E:bH}{s:Shared}
theorem zov(v:Value)(h:Q₁ (.ref s.heap.objs.size) {s with heap:=s.heap.push (vm w)}):
  codeAny (model prog w) A (.call (.builtin "set.__new__") ⟨[.type "set",v],[]⟩) (wants Q₁ E) s:=by
 refine codeAny_of_tree ?_;show wpAny _ A.in1 (checkBuiltinCall "set.__new__" ⟨[.type "set",v],[]⟩>>=fun _=>again (.builtin "set.__new__" ⟨[.type "set",v],[]⟩)) _ _ s;refine z6 (wpAny_of_eq (PySem.F.newCall_set_1 v) (z7 (α:=_) ⟨plainId_quiet PySem.F.plain_set_new _,codeAny_builtin PySem.F.entry_set_new ?_⟩));rw[Around.under_plainId PySem.F.plain_set_new _];unfold Builtin.«set.__new__» Builtin.Frozenset.newClass;have hsub:=sub_set_self;obtain⟨hp,g,d,tk,os⟩:=s;dsimp only
 wp_walk
 refine wpAny_askSetting (z7 (α:=_) ?_);dsimp only;simp only [newObj];exact z6 (wpAny_alloc (z7 (α:=_) (z7 (α:=_) h)))
end
section
variable{prog:Program}{w:World}{κ:Type}[DecidableEq κ]{knd:KeyKind prog w κ}{kf:Value ->κ}(hkf:∀k v,knd.is k v=true ->kf v=k){A:Around}{E:bH}{s:Shared}
include hkf
set_option maxHeartbeats 3200000 in
theorem zoo{l:Addr}{items:Array Value}{val:Nat ->κ}{Q:bH}(hh:A.handled=none)(hl:s.heap.IsList l items)(hv:∀i v,items[i]?=some v ->knd.is (val i) v=true/\v.scannable=true)(hb:items.size+1<scanBound)
  (h:∀(h' :Heap) (tk:Nat),kh knd kf (fW w) h' s.heap.objs.size (fJ val items.size) ->(∀b o,s.heap.get? b=some o ->h'.get? b=some o) ->Q (.ref s.heap.objs.size) {s with heap:=h',toks:=tk}):
  wpAny (model prog w) A (call (.type "set") [.ref l]) Q E s:=by
 obtain⟨c,tl,hmro⟩:=PySem.F.called_set.mro;have hmade:=PySem.F.called_set.made;have hsub:=PySem.F.called_set.sub;refine wpAny_call (codeAny_of_tree ?_);show wpAny _ _ (callAny (.type "set") _) _ _ _;refine z7 (α:=_) ⟨Code.quiet_builtin _ (by decide+kernel),codeAny_builtin PySem.F.entry_type_call ?_⟩
 rw[Around.under_plain (weight_type_call_type "set" [.ref l] []) rfl];have q1:=PySem.F.called_set.notType;have q2:=PySem.F.called_set.canCreate;have q3:=PySem.F.typeCall_set_1 (.ref l)
 (repeat (any_goals (first | assumption | wp_step)));skip
 refine codeAny_mono (zov (.ref l) (E:=E) (Q₁:=fun obj s₁=>obj= .ref s.heap.objs.size/\s₁={s with heap:=s.heap.push (vm w)}) ⟨rfl,rfl⟩) fun r s₁ hr=> ?_;cases r with
 | error e=>exact hr
 | ok fl=>
  cases fl with
  | ret obj=>
   obtain⟨rfl,rfl⟩:=hr;have hS:(s.heap.push (vm w)).get? s.heap.objs.size=some (vm w):=z9 _ rfl;have hT:Shared.TypeIs {s with heap:=s.heap.push (vm w)} (.ref s.heap.objs.size) "set" :=⟨_,hS,rfl⟩;have q4:=PySem.F.called_set.init.lookup;have q5:=PySem.F.called_set.init.bind (.ref s.heap.objs.size)
   (repeat (any_goals (first | assumption | wp_step)));skip
   refine codeAny_mono (codeAny_call_builtin (R:=wants (fun r s₂=>r= .none/\∃h' tk,s₂={s with heap:=h',toks:=tk}/\kh knd kf (fW w) h' s.heap.objs.size (fJ val items.size)/\
     ∀b o,s.heap.get? b=some o ->h'.get? b=some o) E) PySem.F.called_set.init.plain PySem.F.entry_set_init (check_set_init_1 hT ?_)) fun r₂ s₂ hr₂=> ?_
   ·obtain⟨ol,hol,hcl,nl,hdl⟩:=hl;obtain⟨oc,od,ot,os⟩:=ol;simp only at hcl hdl;subst hcl;subst hdl;have hol' :(s.heap.push (vm w)).get? l=some {cls:= .type "list",dict:=od,data:= .seq items nl,slots:=os}:=z8 _ hol;have q6:=PySem.F.sub_list_set;have q7:=PySem.F.sub_list_frozenset;have q8:(Value.type "list" ==Value.type "dict")=false:=by decide
    have hl1:(s.heap.push (vm w)).IsList l items:=⟨_,hol',rfl,nl,rfl⟩;unfold Builtin.«set.__init__» noKeywords Builtin.Frozenset.updateFrom;generalize hPI:pyIter=PI
    wp_walk
    subst hPI;refine wpAny_pyIter_list hl1 (z6 (wpAny_runValue ?_));have hlS:l<s.heap.objs.size:=zJ hol;have hh3:A.in1.in1.in1.handled=none:=by simp [hh]
    have Rk:(s.heap.push (vm w)).objs.size=s.heap.objs.size+1:=Heap.size_push ..;refine zx9 hkf (led:=fW w) ((Walks.list hh3 _ l (by rw[Rk];exact zL (Nat.lt_succ_of_lt hlS)) items).toS) (S:=s.heap.objs.size) ?_ hv hb items.size 0 _ (Nat.zero_add _)
     ⟨⟨_,z9 _ rfl,rfl,rfl⟩,hl1.push _⟩ ⟨_,_,_,_,z8 _ hS,zwz⟩ fun s' hm hS' => ?_
    ·rw[Rk];simp only [List.mem_cons,List.not_mem_nil,or_false,not_or];exact⟨zL (Nat.lt_succ_self _),Nat.ne_of_gt hlS⟩
    ·obtain⟨h',g',d',tk',os'⟩:=s';obtain rfl:g' =s.gens:=hm.gens;obtain rfl:d' =s.drawn:=hm.drawn;obtain rfl:os' =s.os:=hm.os;refine z7 (α:=_) ?_;show wpAny _ _ (ret Value.none) _ _ _;refine z7 (α:=_) ⟨rfl,h',tk',rfl,hS',fun b o e=> ?_⟩;have hlt:=zJ e;refine hm.heap b o ?_ (z8 _ (z8 _ e));rw[Rk];simp only [List.mem_cons,List.not_mem_nil,or_false,not_or];exact⟨zL hlt,zL (Nat.lt_succ_of_lt hlt)⟩
   ·cases r₂ with
    | error e=>exact hr₂
    | ok fl₂=>
     cases fl₂ with
     | ret r=>
      obtain⟨rfl,h',tk,rfl,hS',hk'⟩:=hr₂
      (repeat (any_goals (first | assumption | wp_step)));skip
      exact h _ _ hS' hk'
     | _=>exact hr₂.elim
  | _=>exact hr.elim
end
theorem jt:PySem.Slot "set_iterator" "__next__" "set_iterator.__next__" := .of (owner:= "set_iterator") (n:= "__next__") (by rw[typeLookup_type,builtinLookup_eq_fast];kernel_rfl) (by decide+kernel) (by decide+kernel) (by decide+kernel) (by first | exact .inl (by decide+kernel) | exact .inr (by decide+kernel)) (by rw[isSubtype_type];kernel_rfl)
theorem z36:entryFor table "set_iterator.__next__" =some Builtin.«set_iterator.__next__»:=entryFor_of_tree (by kernel_rfl)
theorem z3n(v:Value):argsOk "set_iterator.__next__" ⟨[v],[]⟩:=by unfold argsOk;kernel_rfl
theorem zx0:entryFor table "set.__iter__" =some Builtin.«frozenset.__iter__»:=entryFor_alias (id' := "frozenset.__iter__") (by kernel_rfl) rfl (by decide+kernel) (by kernel_rfl)
def oW(h:Heap)(I:Addr)(fst:Value)(i:Nat)(S:Addr)(n ep:Nat):Prop:=∃o,h.get? I=some o/\o.cls= .type "set_iterator" /\o.data= .fields #[fst,.int i 0,.ref S,.int n 0,.int ep 0]
theorem oW.ty{s:Shared}{I S:Addr}{fst:Value}{i n ep:Nat}(x:oW s.heap I fst i S n ep):s.TypeIs (.ref I) "set_iterator" :=let ⟨o,ho,hc,_⟩:=x;⟨o,ho,hc⟩
theorem oW.at(x:oW h I fst i S n ep)(e:∀o,h.get? I=some o ->h'.get? I=some o):oW h' I fst i S n ep:=let ⟨o,ho,r⟩:=x;⟨o,e o ho,r⟩
theorem Yw(hi:i<xs.length):(xs[i]::xs.eraseIdx i).Perm xs:=by
 rw[List.eraseIdx_eq_take_drop_succ];refine List.perm_middle.symm.trans ?_;rw[<- List.drop_eq_getElem_cons hi,List.take_append_drop]
section
variable{prog:Program}{w:World}{A:Around}{E:bH}{s:Shared}
theorem zue(hn:n≠0)(h:∀i d,i<n ->Q i {s with drawn:=d}):wpAny (model prog w) A (choose src n) Q E s:=fun Γ p _=>by
 unfold choose;rw[Sem.wp_choose];exact⟨hn,h _ _ (Nat.mod_lt _ (Nat.pos_of_ne_zero hn))⟩
theorem znj(n:Nat):∀(xs:List α) {s:Shared} {Q:List α ->Shared ->Prop},xs.length=n ->(∀ys d,ys.Perm xs ->Q ys {s with drawn:=d}) ->wpAny (model prog w) A (drawOrder n xs) Q E s:=by
 induction n with
 | zero=>
  intro xs s Q hn h;have:xs= []:=List.length_eq_zero_iff.mp hn;subst this;unfold drawOrder;exact z7 (α:=_) (h [] s.drawn (.refl _))
 | succ n ih=>
  intro xs s Q hn h;cases xs with
  | nil=>cases hn
  | cons x xs=>
  unfold drawOrder;refine z6 (m:=choose _ _) (zue (by simp) fun i d hi=> ?_)
  rw[List.getElem?_eq_getElem hi];dsimp only;refine z6 (ih ((x::xs).eraseIdx i) ?_ fun ys d' hp=>z7 (α:=_) (h _ d' ?_))
  ·rw[List.length_eraseIdx_of_lt hi];omega
  ·refine(hp.cons _).trans ?_;exact Yw hi
section
variable{S I:Addr}{fst:Value}{i n ep:Nat}{o:Obj}{es:Array (Int×Value)}{t:SetTable}
theorem Rm(hh:A.handled=none)(hQ:∀h',Heap.ExtBut I h0 h' ->Q none {s with heap:=h'})(hk:Heap.ExtBut I h0 s.heap):
  wpAny (model prog w) A.in1 (newExc (.type "StopIteration") []>>=fun e=>(raiseNew e:Sem PySem.Fin)) (fun _ _=>False)
   (fun e s' =>wpAny (model prog w) A (do if<- isInstance e (.type "StopIteration") then pure (none:Option Value) else throw e) Q E s') s:=by
 refine z6 ?_;simp only [newExc,newTuple];refine z6 (wpAny_newObj_type ?_ (by size_fits))
 refine z6 (m:=firstArgMember _ _) (wpAny_of_eq (a:=Value.none) (by first | rfl | (simp only [firstArgMember];rfl)) ?_)
 refine wpAny_newObj_type ?_ (by size_fits)
 simp only [raiseNew];refine z6 (m:=_) (wpAny_handled ?_);rw[show A.in1.handled=none by simp [hh]]
 refine z6 (z7 (α:=_) (wpAny_throw (α:=_) ?_));refine z6 (m:=isInstance _ _) (wpAny_isInstance (T:= "StopIteration") (b:=true) ⟨_,z9 _ rfl,rfl⟩ isSubtype_stop ?_);exact z7 (α:=_) (hQ _ ((hk.push _).push _))
end
end
section
variable{prog:Program}{w:World}{κ:Type}[DecidableEq κ]{knd:KeyKind prog w κ}{kf:Value ->κ}{A:Around}{E:bH}{s:Shared}{S I:Addr}{fst:Value}{i n ep:Nat}{o:Obj}{es:Array (Int×Value)}{t:SetTable}{led:Bool}{ks:List κ}
theorem Bl(hit:oW s.heap I fst i S n ep)(hg:s.heap.get? S=some o)(O:iH knd kf led o ks es ep t)(hn:es.size=n)
  (h:wpAny (model prog w) A.in1 (if let .int slot _:=fst then do
    match<- setNext S slot.toNat i ep with
    | some (x,next)=>
     setField (.ref I) 0 (rawInt next)
     setField (.ref I) 1 (rawInt ((i:Int)+1))
     ret x
    | none=>setField (.ref I) 2 .none;raiseNew (<- newExc (.type "StopIteration") [])
   else do
    let some places<- seqItems? fst | unsupported "internal:set_iterator"
    match places[i]? with
    | some (.int place _)=>
     let x<- setNextDrawn S place.toNat ep
     setField (.ref I) 1 (rawInt ((i:Int)+1))
     ret x
    | some _=>unsupported "internal:set_iterator"
    | none=>setField (.ref I) 0 (rawInt 0);setField (.ref I) 2 .none;raiseNew (<- newExc (.type "StopIteration") []))
   (fun fin s' =>∃r,fin= .done (.ret r)/\Q (some r) s')
   (fun e s' =>wpAny (model prog w) A (do if<- isInstance e (.type "StopIteration") then pure (none:Option Value) else throw e) Q E s') s):
  wpAny (model prog w) A (pyNext (.ref I)) Q E s:=by
 obtain⟨oi,ho,hc,hd⟩:=id hit;unfold pyNext;refine z6 (m:=_) (wpAny_attempt (wpAny_callSpecial?_slot (name:=Str.ofString "__next__") hit.ty jt (wpAny_call_entry jt hit.ty z36 ?_ (z3n _))));unfold Builtin.«set_iterator.__next__»;refine z6 (m:=slotArgs _ _ _) (z7 (α:=_) ?_);refine z6 (m:=fieldsOf _) (wpAny_fieldsOf ho hd ?_);dsimp only;refine z6 (m:=setEntries S) (wpAny_setEntries_of hg O.dat O.fit ?_);rw[if_neg (by rw[hn];simp)]
 refine wpAny_mono h (fun fin s' ⟨r,hr,hq⟩=>⟨r,hr,z7 (α:=_) hq⟩) fun e s' he=>he
theorem J3(h:Q (w.params.followText "set-order") s):wpAny (model prog w) A setsByText Q E s:=by
 unfold setsByText;exact z6 (m:=ask) (wpAny_askSetting (z7 (α:=_) h))
theorem Yx(hbt:w.params.followText "set-order" =false)(hg:s.heap.get? S=some o)(O:iH knd kf true o ks es ep t)(hdr:(!t.plain&&decide (es.size>1))=false)
  (h:Q (match es[SetTable.below t.place slot]?,t.place[SetTable.below t.place slot]? with | some (_,x),some j=>some (x,j+1) | _,_=>none) s):wpAny (model prog w) A (setNext S slot given e0) Q E s:=by
 unfold setNext;refine z6 (m:=setState S) (wpAny_setState_of hg O.dat O.fit ?_);dsimp only;refine z6 (m:=setsByText) (J3 ?_);rw[hbt,if_neg Bool.false_ne_true,if_neg (fun z=>by have z' :(!t.plain&&decide (es.size>1))=true:=z;rw[hdr] at z';cases z')]
 refine z6 (m:=_) ?_;show wpAny _ _ (if (!t.led&& !es.isEmpty)=true then _ else pure PUnit.unit) _ _ _;rw[O.tok.led,if_neg (by simp)]
 exact z7 (α:=_) (z7 (α:=_) h)
theorem Yy(hbt:w.params.followText "set-order" =true)(hg:s.heap.get? S=some o)(O:iH knd kf led o ks es ep t)
  (h:Q ((pickOrder (w.params.setOrder S ep) es)[given]?.map fun e=>(e.2,slot)) s):wpAny (model prog w) A (setNext S slot given ep) Q E s:=by
 unfold setNext;refine z6 (m:=setState S) (wpAny_setState_of hg O.dat O.fit ?_);dsimp only;refine z6 (m:=setsByText) (J3 ?_);rw[hbt,if_pos rfl,if_neg (by simp)]
 refine z6 (m:=setWalk S) ?_;unfold setWalk;refine z6 (m:=setState S) (wpAny_setState_of hg O.dat O.fit ?_);dsimp only;refine z6 (m:=setsByText) (J3 ?_);rw[hbt,if_pos rfl];exact z6 (m:=ask) (wpAny_askSetting (z7 (α:=_) (z7 (α:=_) h)))
theorem zui(hg:s.heap.get? S=some o)(O:iH knd kf led o ks es ep t)(hx:es[p]?=some x)(h:Q x.2 s):wpAny (model prog w) A (setNextDrawn S p ep) Q E s:=by
 unfold setNextDrawn;refine z6 (m:=setState S) (wpAny_setState_of hg O.dat O.fit ?_);dsimp only;rw[if_neg (by simp),hx]
 exact z7 (α:=_) h
theorem znz(hg:s.heap.get? S=some o)(O:iH knd kf led o ks es ep t)(h:Q (!w.params.followText "set-order" &&(!t.plain&&decide (es.size>1))) s):wpAny (model prog w) A (setDrawn S) Q E s:=by
 unfold setDrawn;refine z6 (m:=setState S) (wpAny_setState_of hg O.dat O.fit ?_);dsimp only;refine z6 (m:=setsByText) (J3 ?_);exact z7 (α:=_) h
theorem Yz(nx:Nat ->Nat):∀(f k:Nat) (l:List α) (out:Array α),l.length=f ->(pickOrder.go nx f k l out).toList.Perm (out.toList++l)
 | 0,k,l,out,hl=>by
  unfold pickOrder.go;rw[List.length_eq_zero_iff.mp hl];simp
 | f+1,k,l,out,hl=>by
  unfold pickOrder.go;have hi:nx k % l.length<l.length:=Nat.mod_lt _ (by omega)
  rw[List.getElem?_eq_getElem hi];dsimp only;refine(Yz nx f (k+1) (l.eraseIdx (nx k % l.length)) _ (by rw[List.length_eraseIdx_of_lt hi];omega)).trans ?_
  rw[Array.toList_push,List.append_assoc];exact List.Perm.append_left _ (Yw hi)
theorem Rn(nx:Nat ->Nat)(xs:Array α):(pickOrder nx xs).toList.Perm xs.toList:=by
 unfold pickOrder;exact Yz nx _ 0 _ #[] (by simp)
end
theorem YB:PySem.Slot "set_iterator" "__iter__" "set_iterator.__iter__" := .of (owner:= "set_iterator") (n:= "__iter__") (by rw[typeLookup_type,builtinLookup_eq_fast];kernel_rfl) (by decide+kernel) (by decide+kernel) (by decide+kernel) (by first | exact .inl (by decide+kernel) | exact .inr (by decide+kernel)) (by rw[isSubtype_type];kernel_rfl)
theorem z3f:entryFor table "set_iterator.__iter__" =some Builtin.«dict_keyiterator.__iter__»:=entryFor_alias (id' := "dict_keyiterator.__iter__") (by kernel_rfl) rfl (by decide+kernel) (by kernel_rfl)
theorem z24(v:Value):argsOk "set_iterator.__iter__" ⟨[v],[]⟩:=by unfold argsOk;kernel_rfl
theorem oW.yM(x:oW h I fst i S n ep)(v:Value):oW (h.update I (Obj.mapFields (·.setIfInBounds 0 v))) I v i S n ep:=by
 obtain⟨o,ho,hc,hd⟩:=x;exact⟨_,Heap.get?_update_self _ ho (Obj.isFreed_of_fields (Obj.data_mapFields hd _)),(Obj.cls_mapFields ..).trans hc,by rw[Obj.data_mapFields hd];simp⟩
theorem oW.yN(x:oW h I fst i S n ep):oW (h.update I (Obj.mapFields (·.setIfInBounds 1 (rawInt ((i:Int)+1))))) I fst (i+1) S n ep:=by
 obtain⟨o,ho,hc,hd⟩:=x;exact⟨_,Heap.get?_update_self _ ho (Obj.isFreed_of_fields (Obj.data_mapFields hd _)),(Obj.cls_mapFields ..).trans hc,by rw[Obj.data_mapFields hd];simp [rawInt]⟩
section
variable{prog:Program}{w:World}{κ:Type}[DecidableEq κ]{knd:KeyKind prog w κ}{kf:Value ->κ}
structure Steps (prog:Program) (w:World) (A:Around) (I S:Addr) (n ep:Nat) (o:Obj) (ex:bA) (vals:List Value) (fst:Nat ->Value):Prop where
 item:∀i (s:Shared) (Q:Option Value ->Shared ->Prop) (E:bH),i<n ->oW s.heap I (fst i) i S n ep ->s.heap.get? S=some o ->(∀p∈ex,s.heap.get? p.1=some p.2) ->
  (∀v h',vals[i]?=some v ->oW h' I (fst (i+1)) (i+1) S n ep ->Heap.SameBut I s.heap h' ->Q (some v) {s with heap:=h'}) ->wpAny (model prog w) A (pyNext (.ref I)) Q E s
 done:∀(s:Shared) (Q:Option Value ->Shared ->Prop) (E:bH),oW s.heap I (fst n) n S n ep ->s.heap.get? S=some o ->(∀p∈ex,s.heap.get? p.1=some p.2) ->
  (∀h',Heap.ExtBut I s.heap h' ->Q none {s with heap:=h'}) ->wpAny (model prog w) A (pyNext (.ref I)) Q E s
theorem zun(T:Steps prog w A I S n ep o ex vals fst)(hS:S≠I)(hX:∀p∈ex,p.1≠I):
  Walks prog w A I (I::S::ex.map (·.1)) [I] n (fun i v=>vals[i]?=some v) (fun i h=>oW h I (fst i) i S n ep/\h.get? S=some o/\∀p∈ex,h.get? p.1=some p.2) where
 sub:=fun b hb=>by simp at hb;simp [hb]
 frame:=fun i h h' st hk=>⟨st.1.at fun o e=>hk I (by simp) o e,hk S (by simp) o st.2.1,fun p hp=>hk p.1 (by simp only [List.mem_cons,List.mem_map];exact .inr (.inr ⟨p,hp,rfl⟩)) p.2 (st.2.2 p hp)⟩
 item:=fun i s Q E hi st hQ=>T.item i s Q E hi st.1 st.2.1 st.2.2 fun v h' hv st' sb=>hQ v h' s.toks hv ⟨st',(sb.2 S hS).trans st.2.1,fun p hp=>(sb.2 p.1 (hX p hp)).trans (st.2.2 p hp)⟩ fun b o hb e=>(sb.2 b fun z=>hb (by simp [z])).trans e
 done:=fun s Q E st hQ=>T.done s Q E st.1 st.2.1 st.2.2 fun h' eb=>hQ h' s.toks fun b o hb e=>eb b o (fun z=>hb (by simp [z])) e
 self:=fun i s Q E st hQ=>by
  refine wpAny_pyIter_slot st.1.ty YB (wpAny_call_entry YB st.1.ty z3f ?_ (z24 _));show wpAny _ _ (ret (.ref I)) _ _ _;exact z7 (α:=_) ⟨_,rfl,"set_iterator",_,st.1.ty,jt.lookup,hQ⟩
variable{A:Around}{I S:Addr}{n ep:Nat}{o:Obj}{es:Array (Int×Value)}{t:SetTable}{ks:List κ}
def ig(t:SetTable)(i:Nat):Nat:=if h:0<i/\i<=t.place.toList.length then t.place.toList[i - 1]'(by omega)+1 else 0
theorem YC(hr:qN t.place.toList)(hi:i<=t.place.toList.length):SetTable.below t.place (ig t i)=i:=by
 have:=zrk hr hi;unfold ig;by_cases h0:0<i
 ·rw[dif_pos ⟨h0,hi⟩];rw[dif_pos h0] at this;exact this
 ·rw[dif_neg (fun z=>h0 z.1)];rw[dif_neg h0] at this;exact this
theorem YD(h:t.fits n=true):t.place.toList.length=n:=by
 simp only [SetTable.fits,Bool.and_eq_true,beq_iff_eq] at h
 simpa using h.1
theorem z08(hh:A.handled=none)(hbt:w.params.followText "set-order" =false)(O:iH knd kf true o ks es ep t)(hdr:(!t.plain&&decide (es.size>1))=false):
  Steps prog w A I S es.size ep o [] (es.toList.map (·.2)) fun i=> .int (ig t i) 0 where
 item:=fun i s Q E hi hit hg _ hQ=>by
  have hl:=YD O.fit;have hb:=YC O.tok.J0 (i:=i) (by omega)
  have hp:i<t.place.size:=by simpa using (by omega:i<t.place.toList.length)
  refine Bl hit hg O rfl ?_;refine z6 (m:=setNext _ _ _ _) (Yx (ep:=ep) hbt hg O hdr ?_);rw[show((ig t i:Nat):Int).toNat=ig t i from Int.toNat_natCast _,hb,Array.getElem?_eq_getElem hi,Array.getElem?_eq_getElem hp];dsimp only;obtain⟨oi,h1,h2,h3⟩:=id hit;refine z6 (m:=setField _ _ _) (wpAny_setField h1 h3 (by simp) ?_)
  have hit2:=hit.yM (rawInt (t.place[i]+1:Nat));obtain⟨oj,g1,g2,g3⟩:=id hit2;refine z6 (m:=setField _ _ _) (wpAny_setField g1 g3 (by simp) ?_)
  refine z7 (α:=_) ⟨_,rfl,hQ _ _ (by simp [hi]) ?_ ((Heap.SameBut.update s.heap I _).trans (Heap.SameBut.update _ I _))⟩
  have e:(Value.int (ig t (i+1)) 0)=rawInt (t.place[i]+1:Nat):=by
   unfold ig;rw[dif_pos ⟨by omega,by omega⟩]
   simp [rawInt]
  rw[e];exact hit2.yN
 done:=fun s Q E hit hg _ hQ=>by
  have hl:=YD O.fit;have hb:=YC O.tok.J0 (i:=es.size) (by omega)
  refine Bl hit hg O rfl ?_;refine z6 (m:=setNext _ _ _ _) (Yx (ep:=ep) hbt hg O hdr ?_);rw[show((ig t es.size:Nat):Int).toNat=ig t es.size from Int.toNat_natCast _,hb,Array.getElem?_eq_none (Nat.le_refl _)];dsimp only;obtain⟨oi,h1,h2,h3⟩:=id hit;refine z6 (m:=setField _ _ _) (wpAny_setField h1 h3 (by simp) ?_)
  exact wpAny_mono (Rm (I:=I) hh hQ (Heap.SameBut.update s.heap I _).extBut) (fun _ _ q=>q.elim) fun _ _ q=>q
theorem z2q(hh:A.handled=none)(hbt:w.params.followText "set-order" =true)(O:iH knd kf led o ks es ep t):
  Steps prog w A I S es.size ep o [] ((pickOrder (w.params.setOrder S ep) es).toList.map (·.2)) fun _=> .int 0 0 where
 item:=fun i s Q E hi hit hg _ hQ=>by
  have hp:=(Rn (w.params.setOrder S ep) es).length_eq;simp only [Array.length_toList] at hp;refine Bl hit hg O rfl ?_;refine z6 (m:=setNext _ _ _ _) (Yy hbt hg O ?_);have hi' :i< (pickOrder (w.params.setOrder S ep) es).size:=by omega
  rw[Array.getElem?_eq_getElem hi'];dsimp only [Option.map_some];obtain⟨oi,h1,h2,h3⟩:=id hit;refine z6 (m:=setField _ _ _) (wpAny_setField h1 h3 (by simp) ?_)
  have hit2:=hit.yM (rawInt ((0:Nat):Int));obtain⟨oj,g1,g2,g3⟩:=id hit2;refine z6 (m:=setField _ _ _) (wpAny_setField g1 g3 (by simp) ?_)
  exact z7 (α:=_) ⟨_,rfl,hQ _ _ (by simp [hi']) hit2.yN ((Heap.SameBut.update s.heap I _).trans (Heap.SameBut.update _ I _))⟩
 done:=fun s Q E hit hg _ hQ=>by
  have hp:=(Rn (w.params.setOrder S ep) es).length_eq;simp only [Array.length_toList] at hp;refine Bl hit hg O rfl ?_;refine z6 (m:=setNext _ _ _ _) (Yy hbt hg O ?_);rw[Array.getElem?_eq_none (by omega)]
  dsimp only [Option.map_none];obtain⟨oi,h1,h2,h3⟩:=id hit;refine z6 (m:=setField _ _ _) (wpAny_setField h1 h3 (by simp) ?_)
  exact wpAny_mono (Rm (I:=I) hh hQ (Heap.SameBut.update s.heap I _).extBut) (fun _ _ q=>q.elim) fun _ _ q=>q
theorem z0h{led:Bool}(hh:A.handled=none)(O:iH knd kf led o ks es ep t){Tp:Addr}{ot:Obj}{ps:List Nat}(hps:ps.Perm (List.range es.size))(hot:∃m,ot.data= .seq (ps.map fun(p:Nat)=>rawInt p).toArray m):
  Steps prog w A I S es.size ep o [(Tp,ot)] (ps.map fun p=>(es.getD p (0,.none)).2) fun _=> .ref Tp where
 item:=fun i s Q E hi hit hg hx hQ=>by
  obtain⟨m,hm⟩:=hot;have hl:ps.length=es.size:=by simpa using hps.length_eq
  have hi' :i<ps.length:=by omega
  have hlt:ps[i]<es.size:=List.mem_range.mp (hps.mem_iff.mp (yZ hi'));refine Bl hit hg O rfl ?_;show wpAny _ _ (seqItems? (.ref Tp)>>=_) _ _ _;refine z6 (m:=seqItems? _) (wpAny_seqItems (hx (Tp,ot) (by simp)) hm ?_)
  dsimp only;have e:(ps.map fun(p:Nat)=>rawInt p).toArray[i]?=some (.int (ps[i]:Nat) 0):=by simp [hi',rawInt]
  rw[e];dsimp only;refine z6 (m:=setNextDrawn _ _ _) (zui (x:=es[ps[i]]) hg O (by rw[Int.toNat_natCast];exact Array.getElem?_eq_getElem hlt) ?_)
  obtain⟨oi,h1,h2,h3⟩:=id hit;refine z6 (m:=setField _ _ _) (wpAny_setField h1 h3 (by simp) ?_)
  exact z7 (α:=_) ⟨_,rfl,hQ _ _ (by simp [hi',hlt]) hit.yN (Heap.SameBut.update s.heap I _)⟩
 done:=fun s Q E hit hg hx hQ=>by
  obtain⟨m,hm⟩:=hot;have hl:ps.length=es.size:=by simpa using hps.length_eq
  refine Bl hit hg O rfl ?_;show wpAny _ _ (seqItems? (.ref Tp)>>=_) _ _ _;refine z6 (m:=seqItems? _) (wpAny_seqItems (hx (Tp,ot) (by simp)) hm ?_)
  dsimp only;have e:(ps.map fun(p:Nat)=>rawInt p).toArray[es.size]?=none:=by simp [hl]
  rw[e];dsimp only;obtain⟨oi,h1,h2,h3⟩:=id hit;refine z6 (m:=setField _ _ _) (wpAny_setField h1 h3 (by simp) ?_)
  have hit2:=hit.yM (rawInt 0);obtain⟨oj,g1,g2,g3⟩:=id hit2;refine z6 (m:=setField _ _ _) (wpAny_setField g1 g3 (by simp) ?_)
  exact wpAny_mono (Rm (I:=I) hh hQ ((Heap.SameBut.update s.heap I _).trans (Heap.SameBut.update _ I _)).extBut) (fun _ _ q=>q.elim) fun _ _ q=>q
end
section
variable{prog:Program}{w:World}{κ:Type}[DecidableEq κ]{knd:KeyKind prog w κ}{kf:Value ->κ}{A:Around}{E:bH}{s:Shared}{S:Addr}{ep:Nat}{o:Obj}{es:Array (Int×Value)}{t:SetTable}{ks:List κ}
structure Laid (knd:KeyKind prog w κ) (kf:Value ->κ) (s:Shared) (S:Addr) (o:Obj) (ks:List κ) (I:Addr) (h' :Heap) (n:Nat) (vals:List Value) (St:Nat ->Heap ->Prop) (fp:List Addr):Prop where
 wk:∀A' :Around,A'.handled=none ->Walks prog w A' I fp [I] n (fun i v=>vals[i]?=some v) St
 st:St 0 h'
 len:vals.length=n
 lem:n=ks.length
 key:(vals.map kf).Perm ks
 mem:∀v∈vals,(∃k,knd.is k v=true)/\v.scannable=true
 new:s.heap.objs.size<=I
 inF:I∈fp
 fpl:∀b∈fp,b<h'.objs.size
 fpn:∀b∈fp,b=S\/s.heap.objs.size<=b
 kep:∀b ob,s.heap.get? b=some ob ->h'.get? b=some ob
 siz:s.heap.objs.size<=h'.objs.size
theorem zwt(hg:s.heap.get? S=some o)(O:iH knd kf (fW w) o ks es ep t)(hb:es.size<=sizeLine)
  (h:∀(I:Addr) (h' :Heap) d n vals St fp,Laid knd kf s S o ks I h' n vals St fp ->Q (.ref I) {s with heap:=h',drawn:=d}):wpAny (model prog w) A (pyIter (.ref S)) Q E s:=by
 have hT:s.TypeIs (.ref S) "set" :=⟨o,hg,O.ex.1⟩;have hSl:S<s.heap.objs.size:=zJ hg;have hlk:es.size=ks.length:=by simpa using O.key.length_eq
 have Ro:∀v∈es.toList.map (·.2),(∃k,knd.is k v=true)/\v.scannable=true:=fun v hv=>by
  obtain⟨e,he,rfl⟩:=zF.mp hv;obtain⟨⟨k,hk,_⟩,hs⟩:=O.el e he;exact⟨⟨k,hk⟩,hs⟩
 have fin:∀(h1:Heap) d (vals:List Value) (ex:bA) (fst:Nat ->Value),s.heap.objs.size<=h1.objs.size ->(∀b ob,s.heap.get? b=some ob ->h1.get? b=some ob) ->(∀p∈ex,h1.get? p.1=some p.2/\s.heap.objs.size<=p.1) ->
   (∀A' :Around,A'.handled=none ->Steps prog w A' h1.objs.size S es.size ep o ex vals fst) ->vals.length=es.size ->(vals.map kf).Perm ks ->(∀v∈vals,(∃k,knd.is k v=true)/\v.scannable=true) ->
   Q (.ref h1.objs.size) {s with heap:=h1.push {cls:= .type "set_iterator",data:= .fields #[fst 0,rawInt 0,.ref S,rawInt es.size,rawInt ep]},drawn:=d}:=by
  intro h1 d vals ex fst hsz hk hx' hs hl hp hm;have hx:∀p∈ex,h1.get? p.1=some p.2:=fun p q=>(hx' p q).1;refine h _ _ d es.size vals _ _ ⟨fun A' hh=>zun (hs A' hh) (zL (zN hSl hsz)) (fun p q=>zL (zJ (hx p q))),⟨⟨_,z9 _ rfl,rfl,rfl⟩,z8 _ (hk S o hg),fun p q=>z8 _ (hx p q)⟩,hl,hlk,hp,hm,hsz,by simp,fun b q=> ?_,fun b q=> ?_,fun b ob e=>z8 _ (hk b ob e),?_⟩
  ·rw[Heap.size_push];simp only [List.mem_cons,List.mem_map] at q;rcases q with rfl | rfl | ⟨p,hp',rfl⟩
   ·exact Nat.lt_succ_self _
   ·exact Nat.lt_succ_of_lt (zN hSl hsz)
   ·exact Nat.lt_succ_of_lt (zJ (hx p hp'))
  ·simp only [List.mem_cons,List.mem_map] at q;rcases q with rfl | rfl | ⟨p,hp',rfl⟩
   ·exact .inr hsz
   ·exact .inl rfl
   ·exact .inr (hx' p hp').2
  ·rw[Heap.size_push];exact Nat.le_succ_of_le hsz
 refine wpAny_pyIter_slot hT PySem.F.slot_set_iter (wpAny_call_entry PySem.F.slot_set_iter hT zx0 ?_ (PySem.F.args_set_iter_1 _));unfold Builtin.«frozenset.__iter__»;refine z6 (m:=Builtin.Frozenset.slot0 _ _) ?_;unfold Builtin.Frozenset.slot0;refine z6 (m:=slotArgs _ _ _) (z7 (α:=_) ?_);show wpAny _ _ (pure S) _ _ _;refine z7 (α:=_) ?_;refine z6 (m:=Builtin.Frozenset.sizeOf S) ?_;unfold Builtin.Frozenset.sizeOf;refine z6 (m:=setEntries S) (wpAny_setEntries_of hg O.dat O.fit (z7 (α:=_) ?_));refine z6 (m:=setDrawn S) (znz hg O ?_);dsimp only;cases hbt:w.params.followText "set-order" with
 | true=>
  rw[show(!true&&(!t.plain&&decide (es.size>1)))=false from rfl,if_neg Bool.false_ne_true];refine z6 (m:=pure _) (z7 (α:=_) ?_);refine z6 (m:=setEpoch S) (wpAny_setEpoch_of hg O.dat O.fit ?_);refine z6 (m:=newFields _ _) (wpAny_newObj_type (z7 (α:=_) ⟨_,rfl,"set_iterator",_,⟨_,z9 _ rfl,rfl⟩,jt.lookup,?_⟩));have hp:=Rn (w.params.setOrder S ep) es;refine fin s.heap s.drawn ((pickOrder (w.params.setOrder S ep) es).toList.map (·.2)) [] (fun _=> .int 0 0) (zO _) (fun _ _ e=>e) (fun p q=>by cases q) (fun A' hh=>z2q hh hbt O) (by simpa using hp.length_eq) ?_ fun v hv=>Ro v ((hp.map _).mem_iff.mp hv)
  rw[List.map_map];exact(hp.map _).trans O.key
 | false=>
  have Rp:fW w=true:=by unfold fW;rw[hbt];rfl
  cases hdr:(!t.plain&&decide (es.size>1)) with
  | false=>
   rw[show(!false&&false)=false from rfl,if_neg Bool.false_ne_true];refine z6 (m:=pure _) (z7 (α:=_) ?_);refine z6 (m:=setEpoch S) (wpAny_setEpoch_of hg O.dat O.fit ?_);refine z6 (m:=newFields _ _) (wpAny_newObj_type (z7 (α:=_) ⟨_,rfl,"set_iterator",_,⟨_,z9 _ rfl,rfl⟩,jt.lookup,?_⟩));rw[Rp] at O;refine fin s.heap s.drawn (es.toList.map (·.2)) [] (fun i=> .int (ig t i) 0) (zO _) (fun _ _ e=>e) (fun p q=>by cases q) (fun A' hh=>z08 hh hbt O hdr) (by simp) ?_ Ro
   rw[List.map_map];exact O.key
  | true=>
   rw[show(!false&&true)=true from rfl,if_pos rfl];refine z6 (m:=drawOrder _ _) (znj es.size (List.range es.size) (by simp) fun ps d hps=> ?_)
   have hpl:ps.length=es.size:=by simpa using hps.length_eq
   refine z6 (m:=newTuple _) (wpAny_newTuple ?_ (by rw[List.length_map,hpl];exact hb))
   have hgt:(s.heap.push {cls:= .type "tuple",data:= .seq (ps.map fun(i:Nat)=>rawInt i).toArray}).get? S=some o:=z8 _ hg;refine z6 (m:=setEpoch S) (wpAny_setEpoch_of hgt O.dat O.fit ?_);refine z6 (m:=newFields _ _) (wpAny_newObj_type (z7 (α:=_) ⟨_,rfl,"set_iterator",_,⟨_,z9 _ rfl,rfl⟩,jt.lookup,?_⟩));have hpm:(ps.map fun p=>(es.getD p (0,.none)).2).Perm (es.toList.map (·.2)):=by
    refine(hps.map _).trans ?_;have:(List.range es.size).map (fun p=>(es.getD p (0,.none)).2)=es.toList.map (·.2):=by
     apply List.ext_getElem
     ·simp
     ·intro i h1 h2;have:i<es.size:=by simpa using h1
      simp [this]
    rw[this]
   refine fin _ d (ps.map fun p=>(es.getD p (0,.none)).2) [(s.heap.objs.size,{cls:= .type "tuple",data:= .seq (ps.map fun(i:Nat)=>rawInt i).toArray})] (fun _=> .ref s.heap.objs.size) (by rw[Heap.size_push];exact Nat.le_succ _) (fun b ob e=>z8 _ e) (fun p q=> ?_) (fun A' hh=>z0h hh O hps ⟨_,rfl⟩) (by simp [hpl]) ?_ fun v hv=>Ro v (hpm.mem_iff.mp hv)
   ·obtain rfl:p=_:=by simpa using q
    exact⟨z9 _ rfl,zO _⟩
   ·refine(hpm.map kf).trans ?_;rw[List.map_map];exact O.key
abbrev kj:Obj:={cls:= .type "list",data:= .seq ([]:List Value).toArray}
theorem zox(hh:A.handled=none)(hg:s.heap.get? S=some o)(O:iH knd kf (fW w) o ks es ep t)(hb:es.size<=sizeLine)
  (h:∀(vals:List Value) (h' :Heap) d tk,(vals.map kf).Perm ks ->(∀v∈vals,(∃k,knd.is k v=true)/\v.scannable=true) ->s.heap.objs.size<h'.objs.size ->(∀b ob,s.heap.get? b=some ob ->h'.get? b=some ob) ->Q vals {s with heap:=h',drawn:=d,toks:=tk}):
  wpAny (model prog w) A (collect (.ref S)) Q E s:=by
 have hSl:S<s.heap.objs.size:=zJ hg;unfold collect;refine z6 (m:=runValue _) (wpAny_runValue (codeAny_builtin PySem.F.entry_proto_collect ?_));rw[Around.under_plainId PySem.F.plain_proto_collect _];show wpAny _ _ (newList []>>=fun l=>again (.builtin "list.__iadd__" ⟨[l,.ref S],[]⟩)) _ _ _;refine z6 (m:=newList []) (wpAny_newObj_type ?_);refine z7 (α:=_) ⟨plainId_quiet PySem.F.plain_list_iadd _,codeAny_builtin PySem.F.entry_list_iadd ?_⟩;rw[Around.under_plainId PySem.F.plain_list_iadd _];have hg1:(s.heap.push kj).get? S=some o:=z8 _ hg;have hT1:Shared.TypeIs {s with heap:=s.heap.push kj} (.ref S) "set" :=⟨o,hg1,O.ex.1⟩;show wpAny _ _ (Builtin.List.listExtendWith (.ref s.heap.objs.size) (.ref S) (.ref s.heap.objs.size)) _ _ _;unfold Builtin.List.listExtendWith;refine z6 (m:=typeOf _) (wpAny_typeOf hT1 ?_);have n1:Builtin.List.listSameRef (.ref s.heap.objs.size) (.ref S)=false:=by simp [Builtin.List.listSameRef,Nat.ne_of_gt hSl]
 rw[if_neg (by rw[n1];decide)]
 refine z6 (m:=pyIter _) (zwt hg1 O hb fun I h1 d n vals St fp L=> ?_);refine z6 (m:=holding _ _) (wpAny_holding (vs:= [_]) ?_);unfold Builtin.List.listLengthHint;have hg2:h1.get? S=some o:=L.kep S o hg1;have hT2:Shared.TypeIs {s with heap:=h1,drawn:=d} (.ref S) "set" :=⟨o,hg2,O.ex.1⟩;refine z6 (m:=specialOf _ _) (wpAny_specialOf hT2 PySem.F.slot_set_len.lookup ?_);dsimp only;rw[show splitId "set.__len__" =some ("set","__len__") by decide+kernel]
 dsimp only;refine z6 (m:=isInstance _ _) (wpAny_isInstance hT2 sub_set_self ?_);rw[if_neg (by decide),if_pos (by decide+kernel)]
 refine z6 (m:=typeOf _) (wpAny_typeOf hT2 ?_);dsimp only;refine z7 (α:=_) ?_;rw[if_pos (by decide+kernel)]
 refine z6 (m:=rule _) (wpAny_rule ?_);have hS1:h1.get? s.heap.objs.size=some kj:=L.kep _ _ (z9 _ rfl);have hNI:s.heap.objs.size≠I:=zL (zN (by rw[Heap.size_push];exact Nat.lt_succ_self _) L.new)
 refine z6 (m:=Builtin.List.listTouch _) ?_;show wpAny _ _ (updateSeq s.heap.objs.size (·.push .none)>>=fun _=>updateSeq s.heap.objs.size (·.pop)) _ _ _;refine z6 (m:=updateSeq _ _) (wpAny_updateSeq hS1 rfl ?_);have hS2:=Heap.get?_update_self (Obj.mapSeq (·.push Value.none)) hS1 rfl;refine wpAny_updateSeq hS2 rfl ?_;have hS3:=Heap.get?_update_self (Obj.mapSeq (·.pop)) hS2 rfl;have oth:∀b ob,b≠s.heap.objs.size ->h1.get? b=some ob ->((h1.update s.heap.objs.size (Obj.mapSeq (·.push Value.none))).update s.heap.objs.size (Obj.mapSeq (·.pop))).get? b=some ob:=
  fun b ob q e=>(Heap.get?_update_other _ _ (Ne.symm q)).trans ((Heap.get?_update_other _ _ (Ne.symm q)).trans e)
 have YF:s.heap.objs.size∉fp:=fun q=>by
  rcases L.fpn _ q with z | z
  ·exact absurd z (Nat.ne_of_gt hSl)
  ·have z' :(s.heap.push kj).objs.size<=s.heap.objs.size:=z;rw[Heap.size_push] at z';exact absurd z' (Nat.not_succ_le_self _)
 have Bm:n<=sizeLine:=by
  have e1:=L.lem;have e2:es.size=ks.length:=by simpa using O.key.length_eq
  omega
 have W:=L.wk A.in1 (by simp [hh])
 refine z7 (α:=_) ⟨plainId_quiet PySem.F.plain_extend_loop _,codeAny_extend_loopS W.toS Bm _ YF _ n 0 _ _ _ rfl (Nat.zero_le _) (W.frame 0 h1 _ L.st fun b q ob e=>oth b ob (fun z=>YF (z ▸ q)) e) hS3 (ItemsOf.nil _) fun s' acc c' hm hS' hacc=> ?_⟩;show wpAny _ _ (load s.heap.objs.size>>=_) _ _ _;refine z6 (m:=load _) (wpAny_load hS' ?_);refine z7 (α:=_) ?_;have ev:acc.toList=vals:=by
  apply List.ext_getElem?;intro i;by_cases q:i<n
  ·have hi:i<acc.size:=by rw[hacc.1];exact q
   have:=hacc.2 i acc[i] (Array.getElem?_eq_getElem hi);rw[Array.getElem?_toList,Array.getElem?_eq_getElem hi,this]
  ·exact(List.getElem?_eq_none (by rw[Array.length_toList,hacc.1];omega)).trans (List.getElem?_eq_none (by rw[L.len];omega)).symm
 rw[ev];obtain⟨h',g',d',tk',os'⟩:=s';obtain rfl:g' =s.gens:=hm.gens;obtain rfl:d' =d:=hm.drawn;obtain rfl:os' =s.os:=hm.os;refine h vals h' d' tk' L.key L.mem (zJ hS') fun b ob e=> ?_;have hlt:=zJ e;have Rq:b≠s.heap.objs.size:=zL hlt;refine hm.heap b ob ?_ (oth b ob Rq (L.kep b ob (z8 _ e)));simp only [List.mem_cons,List.not_mem_nil,or_false,not_or];exact⟨Rq,fun z=>Rq (by
  subst z;have z2:(s.heap.push kj).objs.size<=b:=L.new;rw[Heap.size_push] at z2;exact absurd hlt (Nat.not_lt_of_ge (Nat.le_of_succ_le z2)))⟩
end
def Rr:Value ->Int | .int i _=>i | _=>0
theorem z5y(hob:h.get? a=some (seqObj "list" xs n)):∃e,(sortedHeap h a vs out).get? a=some (seqObj "list" out e):=by
 have hal:a<h.objs.size:=zJ hob;have h1:=get?_update_seq hob (fun _=>(#[]:Array Value));have h2:(((h.update a (Obj.mapSeq fun _=> #[])).push (seqObj "tuple" vs.toArray 0)).push (seqObj "list" #[] 0)).get? a=some (seqObj "list" #[] _):=z8 _ (z8 _ h1);exact⟨_,get?_update_seq h2 (fun _=>out)⟩
theorem z39(hb:h.get? b=some o)(hne:b≠a):(sortedHeap h a vs out).get? b=some o:=by
 have h1:(h.update a (Obj.mapSeq fun _=>(#[]:Array Value))).get? b=some o:=(Heap.get?_update_ne _ _ _ _ hne).trans hb;exact(Heap.get?_update_ne _ _ _ _ hne).trans (z8 _ (z8 _ h1))
section
variable{prog:Program}{w:World}{A:Around}{E:bH}{s:Shared}{S:Addr}{ks:List Int}
end
def Ga(P:Program)(w:World)(a:Addr)(ns:List Int):HO:= .ext fun h=>kh (PySem.intKind P w) Rr (fW w) h a (fJ (fun i=>ns.getD i 0) ns.length)
theorem z32(I:Inv X pins σ H s)(d):Inv X pins σ H {s with drawn:=d}:=⟨I.ok,I.os,I.bare,I.base,I.loc,I.cell,I.free,I.freeC,I.pin,I.hok,I.len⟩
def aaW(X:Cx):List V ->Hp ->VK ->Prop:=fun vs H Q=>∃(p:Addr) (ns:List Int),vs= [.ref p]/\fL X.K H p (ns.map .int)/\ns.length+1<scanBound/\∀q,H q=none ->Q (.ref q) (upd H q (Ga X.prog X.w q ns))
def aaX(X:Cx):List V ->Hp ->VK ->Prop:=fun vs H Q=>∃(q:Addr) (ns:List Int),vs= [.ref q]/\H q=some (Ga X.prog X.w q ns)/\ (fJ (fun i=>ns.getD i 0) ns.length).length<64/\
 ∀(l:Addr) (ms:List Int),H l=none ->ms.Perm (fJ (fun i=>ns.getD i 0) ns.length) ->ms.Pairwise (· <= ·) ->Q (.ref l) (upd H l (.lst (ms.map .int)))
def z6g:List D ->(List D ->Prop) ->Prop:=fun ds P=>match ds with
 | [.lst xs]=>∃ns,fV xs=some ns/\ns.length<63/\∀ms:List Int,ms.Pairwise (· < ·) ->(∀i,i∈ms↔i∈ns) ->P (ms.map .int)
 | _=>False
theorem zx3:bootBuiltins "set" =some (.type "set"):=by decide+kernel
section
variable{X:Cx}{F0 H0:Hp}{a e:Expr}{pos p pos2 p2:Pos}{t:aZ}
end
def Itv(K:W.Frag)(a:Addr)(xs:List V):It:=⟨fun i H=>fL K H a xs/\i<xs.length,fun i H x H' =>H' =H/\xs.reverse[i]?=some x,fun i _=>xs.length<=i⟩
def YG(K:W.Frag)(ta:TA):TI:=fun σ H R=>ta σ H fun vs H1=>∃a xs,vs= [.ref a]/\fL K H1 a xs/\ (xs.length<=sizeLine ->R (Itv K a xs) H1)
def z2t(t:aZ):aZ:=fun Γ P E=>t Γ (fun ds Γ1=>match ds with | [.lst xs]=>P xs.reverse Γ1 | _=>False) E
section
variable{X:Cx}{F0 H0:Hp}{a e tg:Expr}{pos p pos2 p2:Pos}{t:aZ}
end
section
variable{prog:Program}{w:World}{A:Around}{E:bH}{s:Shared}
abbrev Rt:Obj:={cls:= .type "list",data:= .seq #[]}
end
def z6m:List D ->(List D ->Prop) ->Prop:=fun ds P=>match ds with | [.lst xs]=>P xs.reverse | _=>False
structure Ru (K:W.Frag) (C:Addr):Prop where
 cls:Ec K C=true
 g:vf K C
 sa:W.findIn K (.ref C) "__setattr__" =some (some (.builtin "object.__setattr__"))
 hd:W.hasDictIn K C=true
section
variable{prog:Program}{w:World}{A:Around}{E:bH}{K:W.Frag}{h:Heap}{g:Array GenState}{d:Drawn}{t:Nat}{os:OsState}{x C:Addr}{o:Obj}{name:Str}{v:Value}
end
section
variable{prog:Program}{w:World}{A:Around}{E:bH}{K:W.Frag}{h:Heap}{g:Array GenState}{d:Drawn}{t:Nat}{os:OsState}{x C dx:Addr}{o:Obj}{name:Str}{v:Value}{mA:Str ->Option Value}
end
def XO(e C:Addr)(od:Option Addr):HO:= .ext fun h=>∃t,h.get? e=some ⟨.ref C,od,.fields #[.ref t,.none,.none,.none,.bool false,.none],#[]⟩
section
variable{X:Cx}{pins:bA}{σ:St}{H:Hp}{s:Shared}{A:Around}{E:bH}{a C dx:Addr}{f:Str}{y v:V}{u:Value}{fs:List (Str×V)}
end
def YH(C:Addr)(f:Str)(ta:TE):TE:=fun σ H Q=>ta σ H fun x H1=>∃a dx fs v,x= .ref a/\H1 a=some (XO a C (some dx))/\H1 dx=some (.xd fs)/\fs.lookup f=some v/\Q v H1
def YJ(C:Addr)(f:Str)(ta tv:TE):TS:=fun D σ H=>tv σ H fun y H1=>ta σ H1 fun x H2=>∃a,x= .ref a/\H2 a=some (XO a C none)/\∀dx,H2 dx=none ->dx≠a ->D.nx σ (upd (upd H2 a (XO a C (some dx))) dx (.xd [(f,y)]))
structure aaY (K:W.Frag) (B:Addr):Prop where
 sp:W.specialIn K (.ref B) "__getattribute__" =some (some (.builtin "type.__getattribute__"))
 rd:W.readsIn K B (.type "type")=true
 fi:W.findCls K (.ref B) (.type "type") "__init__" =some (.val (.builtin "ValueError.__init__"))
section
variable{X:Cx}{o e value:Expr}{f:Str}{pos pos' apos p:Pos}{ta tv:TE}{C B:Addr}{x:Str}
end
def z5a(bn:Str)(p apos pos:Pos)(args:List Expr)(env:Env)(pl:Sem Bool):Prop:=eval (.Call (.Attribute (.Name bn p) "__init__" apos) args [] pos) env=(do
   let ov<- eval (.Name bn p) env
   standAt apos.atName
   let (f,first)<- holding [ov] (getMethod ov "__init__" pl)
   callWith pos f first (backTo pos (starEach args env)) (backToKw pos (keywordEach [] env)))
def z1z(K:W.Frag)(C:Addr)(f:Str)(sp:cD):Sp:=fun vs H Q E=>∃x rest F ds Pd Ex,vs= .ref x::rest/\H x=some (XO x C none)/\Same F H/\F x=none/\ak K F ds rest/\sp ds Pd Ex/\
 (∀d F' H3 v dx H',Gr F H F' H3 ->Rep K F' d v ->Pd d ->H3 dx=none ->dx≠x ->H' x=some (XO x C (some dx)) ->H' dx=some (.xd [(f,v)]) ->(∀b,b≠x ->b≠dx ->H' b=H3 b) ->Q .non H')/\∀C' H',Ex C' ->Same H H' ->E C' none H'
section
variable{P:Program}{w:World}{K:W.Frag}{mg:Str ->Option Value}{base:Heap}
end
def z6c(C:Addr)(sp:cD)(t:aZ):au:=fun _ Γ E=>t Γ (fun ds Γ1=>ds.length<=sizeLine/\sp ds (fun _=>E Γ1 (.ref C)) fun Cx=>E Γ1 Cx) E
section
variable{X:Cx}{F0 H0:Hp}{e:Expr}{es:List Expr}{pos np cpos:Pos}{t:aZ}{x fl:Str}{C f:Addr}{fd:FuncData}{ps:List Str}{k:Nat}{sp:cD}
structure Xk2 (P:Program) (w:World) (K:W.Frag) (mg:Str ->Option Value) (base:Heap) (x:Str) (C:Addr) (fl:Str) (k:Nat) (ps:List Str) (sp:cD):Prop where
 ex:∃f fd,dX P w K mg base (gK P w) k f fd ps (z1z K C fl sp)/\W.findIn K (.ref C) "__init__" =some (some (.ref f))/\W.isFn K (.ref f)=true/\Ru K C/\mg x=some (.ref C)/\Binds K fd ps []
end
section
variable{X:Cx}{F0 H0:Hp}{tg iter elt:Expr}{ifs:List Expr}{pos:Pos}{sc:Scope}{own:List Str}{caps:List Nat}{N' :List Str}{ti:aZ}{g:jO}{tc:TT2}{te:aG}
open Classical in
end
section
variable{K:W.Frag}{F H:Hp}
theorem Gb:∀{ds:List D} {vs:List V},ak K F ds vs ->cJ K F H (ds.map .leaf) vs []
 | [],_,h=>by unfold ak at h;subst h;rw[List.map_nil];unfold cJ;exact⟨rfl,rfl⟩
 | d::ds,_,h=>by
  unfold ak at h;obtain⟨v,us,rfl,h1,h2⟩:=h;rw[List.map_cons];unfold cJ;exact⟨v,us,[],[],rfl,rfl,by unfold TR;exact⟨rfl,h1⟩,Gb h2⟩
theorem YK:∀{ts us:List T} {vs ws:List V} {as bs:List Addr},cJ K F H ts vs as ->cJ K F H us ws bs ->cJ K F H (ts++us) (vs++ws) (as++bs)
 | [],us,vs,ws,as,bs,h1,h2=>by
  unfold cJ at h1;obtain⟨rfl,rfl⟩:=h1;exact h2
 | t::ts,us,vs,ws,as,bs,h1,h2=>by
  unfold cJ at h1;obtain⟨v,vs',a1,a2,rfl,rfl,q1,q2⟩:=h1;rw[List.cons_append];unfold cJ;exact⟨v,vs' ++ws,a1,a2++bs,rfl,by rw[List.append_assoc],q1,YK q2 h2⟩
theorem z0j(h:TR K F H t v as):cJ K F H [t] [v] as:=by
 unfold cJ;refine⟨v,[],as,[],rfl,by simp,h,?_⟩
 unfold cJ;exact⟨rfl,rfl⟩
theorem YL:∀{ts:List T} {vs:List V} {as:List Addr} {j:Nat} {t:T},cJ K F H ts vs as ->ts[j]?=some t ->∃v b1 bs b2,vs[j]?=some v/\as=b1++ (bs++b2)/\TR K F H t v bs/\
  ∀{F' H' :Hp} {t' :T} {cs:List Addr},Same F F' ->(∀a∈b1++b2,∀u,H a=some u ->H' a=some u) ->TR K F' H' t' v cs ->cJ K F' H' (ts.set j t') vs (b1++ (cs++b2))
 | [],_,_,j,t,_,e=>by simp at e
 | t0::ts,_,_,0,t,h,e=>by
  cases e;unfold cJ at h;obtain⟨v,vs',a1,a2,rfl,rfl,q1,q2⟩:=h;refine⟨v,[],a1,a2,rfl,rfl,q1,fun{F' H' t' cs} f k r=> ?_⟩;rw[List.set_cons_zero];unfold cJ;exact⟨v,vs',cs,a2,rfl,rfl,r,cJ.move f ts vs' a2 (fun a ha=>k a ha) q2⟩
 | t0::ts,_,_,j+1,t,h,e=>by
  unfold cJ at h;obtain⟨v,vs',a1,a2,rfl,rfl,q1,q2⟩:=h;obtain⟨w,b1,bs,b2,g1,rfl,g3,g4⟩:=YL q2 (by simpa using e)
  refine⟨w,a1++b1,bs,b2,by simpa using g1,by simp,g3,fun{F' H' t' cs} f k r=> ?_⟩
  rw[List.set_cons_succ];unfold cJ;exact⟨v,vs',a1,b1++ (cs++b2),rfl,by simp,TR.move f t0 v a1 (fun a ha=>k a (by simp [ha])) q1,g4 f (fun a ha=>k a (by rcases zU.mp ha with z | z<;>simp [z])) r⟩
end
mutual
def Gd:T ->Prop
 | .leaf d=>vh d
 | .lst ts=>n6 ts
 | .dic _ ts=>n6 ts
 | .dG _ ts=>n6 ts
 | .ob _ _ ts=>n6 ts
 | .kt _=>True
def n6:List T ->Prop
 | []=>True
 | t::ts=>Gd t/\n6 ts
end
section
variable{K:W.Frag}{F F' H:Hp}
end
abbrev jj:=G2 ->(T ->G2 ->Prop) ->XW ->Prop
section
variable(K:W.Frag)(F0 H0:Hp)
def upN(t:jj)(E:XW):TE:=fun σ H Q=>∃F Γ P,SR K F0 H0 F H σ Γ/\t Γ P E/\∀tr Γ' F' H' v as,SR K F0 H0 F' H' σ Γ' ->Same F F' ->as.Nodup ->(∀a∈as,F' a=none/\H0 a=none/\Apart σ Γ' a) ->TR K F' H' tr v as ->P tr Γ' ->Q v H'
end
def QN(X:Cx)(F0 H0:Hp)(e:Expr)(t:jj):Prop:=∀z E,Ctx (X.wsh z) F0 H0 E ->PE (X.wsh z) e (upN X.K F0 H0 t E)
def YM(t:aZ):jj:=fun Γ P E=>t Γ (fun ds Γ1=>P (.lst (ds.map .leaf)) Γ1) E
section
variable{X:Cx}{F0 H0:Hp}{e:Expr}{es:List Expr}{pos p:Pos}{te:aG}{tf:aZ}{tn:jj}
theorem z5q(h:QF X F0 H0 e tf):QN X F0 H0 e (YM tf):=fun z E cx=>
 jg (h z E cx) fun σ H Q hq1=>by obtain⟨F,Γ,P,R,h,k⟩:=hq1;exact⟨F,Γ,_,R,h,fun ds Γ1 F1 H1 a vs R1 s1 e1 e2 e3 r1 ap h1=>by
  refine k _ _ _ _ _ [a] R1 s1 (by simp) (fun b hb=>by rw[List.mem_singleton.mp hb];exact⟨e2,e3,ap⟩) ?_ h1
  unfold TR;exact⟨a,vs,[],rfl,rfl,e1,Gb r1⟩⟩
def Bo:jj:=fun Γ P _=>P (.dic [] []) Γ
theorem Ge:QN X F0 H0 (.Dict [] [] pos) Bo:=fun z E cx=>
 jg zyu fun σ H Q hq2 q hq=>by
  obtain⟨F,Γ,P,R,h,k⟩:=hq2;have R2:SR X.K F0 H0 F (upd H q (.dK [])) σ Γ:=R.grow ⟨.refl _,fun b u e=>by rw[cQ (jV (R.g b u e) hq)];exact R.g b u e,fun b u e=>by rw[cQ (jV e hq)];exact e,fun b o e n=>by rw[e] at n;cases n⟩
  refine k _ _ _ _ _ [q] R2 (.refl _) (by simp) (fun b hb=>by rw[List.mem_singleton.mp hb];exact⟨R.g.free hq,R.gr.h.free hq,R.apart hq⟩) ?_ h
  unfold TR;exact⟨q,[],[],rfl,rfl,jL,rfl,by unfold cJ;exact⟨rfl,rfl⟩⟩
def YQ(t:jj):jj:=fun Γ P _=>t (jq Γ) (fun tr _=>Gd tr/\P tr Γ) j7
open Classical in
def mC(i:Nat)(t:jj):au:=fun D Γ E=>t Γ (fun tr Γ1=>∀as,D.nx (Γ1.set i (.tr as tr))) E
theorem Gf(hN:X.N.Nodup)(hi:X.N[i]?=some x)(hx:Loc X.env.scope x)(he:QN X F0 H0 e tn)(hs:swapsWith e (some (.Name x pos')) pos.line X.env=pure false:=by rfl)
  (hf:X.fn x=true\/X.env.scope.names.lookup x=some .local:=by first | exact .inl rfl | exact .inr rfl):QS X F0 H0 (.Assign [.Name x pos'] e pos) (mC i tn):=fun z E cx=>
 lY (Mh (X:=X.wsh z) (i:=i) hN hi hx (he z E cx) hs hf) fun D σ H qJ=>by obtain⟨F,Γ,D2,R,h,k⟩:=qJ;exact⟨F,Γ,_,R,h,fun t Γ1 F1 H1 v as R1 s1 nd hn r1 h1=>
  k.nx _ _ _ _ (R1.put i (s:= .tr as t) ⟨v,rfl,nd,fun b hb=>⟨(hn b hb).1,(hn b hb).2.1⟩,r1⟩ fun a ha=>(hn a ha).2.2) s1 (h1 as)⟩
def qd(t:jj):au:=fun D Γ E=>t Γ (fun tr _=>D.rT tr) E
theorem Rv(he:QN X F0 H0 e tn):QS X F0 H0 (.Return (some e) pos) (qd tn):=fun z E cx=>
 lY (Vx (he z E cx)) fun D σ H pB=>by obtain⟨F,Γ,D2,R,h,k⟩:=pB;exact⟨F,Γ,_,R,h,fun t Γ1 F1 H1 v as R1 s1 nd hn r1 h1=>k.rT _ _ _ _ _ R1.gr nd (fun a ha=>⟨(hn a ha).1,(hn a ha).2.1⟩) r1 h1⟩
def nV(i:Nat):jj:=fun Γ P _=>match Γ[i]? with
 | some (.tr _ t)=>P t (Γ.set i .no)
 | _=>False
theorem YS(hN:X.N[i]?=some x)(hv:mU X.env.scope x)(hd:(x==("__debug__" :Str))=false:=by decide)(hcd:(x==("__classdict__" :Str))=false:=by decide):QN X F0 H0 (.Name x pos) (nV i):=fun z E cx=>
 jg (o7 (X:=X.wsh z) (i:=i) hN hv hd hcd) fun σ H Q uh=>by
  obtain⟨F,Γ,P,R,h,k⟩:=uh;unfold nV at h;split at h
  ·rename_i as t e;obtain⟨o,e0,v,rfl,nd,hn,r⟩:=R.sl i _ e;exact⟨v,e0,k t _ F H v as (R.dropAt e0) (.refl _) nd (fun a ha=>⟨(hn a ha).1,(hn a ha).2,R.less e e0 (show dY (Slot.tr as t) (some v) a from ha)⟩) r h⟩
  ·exact h.elim
end
section
variable{prog:Program}{w:World}{κ:Type}[DecidableEq κ]{knd:KeyKind prog w κ}{A:Around}{E:bH}{s:Shared}{d:Addr}{ep:Nat}{kvs:List (κ×Value)}
end
section
variable{prog:Program}{w:World}{A:Around}{E:bH}{s:Shared}{d:Addr}{ep:Nat}{kvs:List (Key×Value)}
end
def YT(X:Cx):List V ->Hp ->VK ->Prop:=fun vs H Q=>∃(q:Addr) (kvs:List (Key×V)) (ns:List Int),vs= [.ref q]/\H q=some (.dK kvs)/\kvs.map (·.1)=ns.map .inl/\ns.length<64/\
 ∀(l:Addr) (ms:List Int),H l=none ->ms.Perm ns ->ms.Pairwise (· <= ·) ->Q (.ref l) (upd H l (.lst (ms.map .int)))
def YW(i:Nat):aZ:=fun Γ P _=>match Γ[i]? with
 | some (.tr _ (.dic ks _))=>∃ns:List Int,ks=ns.map .inl/\ns.length<64/\∀ms:List Int,ms.Perm ns ->ms.Pairwise (· <= ·) ->P (ms.map .int) Γ
 | _=>False
section
variable{X:Cx}{F0 H0:Hp}{pos p px:Pos}{x:Str}{i:Nat}
theorem Rx:∀{ks:List Key} {vs:List V},ks.length=vs.length ->(ks.zip vs).map (·.1)=ks
 | [],[],_=>rfl
 | [],_::_,h=>by cases h
 | _::_,[],h=>by cases h
 | k::ks,v::vs,h=>by rw[List.zip_cons_cons,List.map_cons,Rx (by simpa using h)]
end
section
variable{K:W.Frag}{F0 H0 F H F' H' :Hp}{σ:St}{Γ:List Slot}
theorem zrp(e1:σ[i]?=some o)(h:Apart σ Γ a):Apart σ (Γ.set i .no) a:=fun j q=>by
 have q' :iT (Γ.set i .no) (σ.set i o) j a:=by rw[Al e1];exact q
 rcases DW q' with ⟨_,z⟩ | ⟨_,z⟩
 ·exact z
 ·exact h j z
theorem SR.wrT(R:SR K F0 H0 F H σ Γ)(e:Γ[i]?=some s)(e1:σ[i]?=some o)(h:dY s o a)(r:iR K F (L2.upd H a u) H0 t o)(ht:∀b,dY t o b ->dY s o b\/Apart σ Γ b):
  SR K F0 H0 F (L2.upd H a u) σ (Γ.set i t):=by
 have R1:=R.wrO (t:= .no) (u:=u) e e1 h trivial fun _ z=>z.elim;have R2:=R1.put i r fun b hb=>by
  rcases ht b hb with z | z
  ·rw[show(Γ.set i Slot.no)=Γ.set i .no from rfl];exact R.less e e1 z
  ·exact zrp e1 z
 rw[Al e1,List.set_set] at R2;exact R2
end
abbrev qe:=List D ->(T ->Prop) ->(Value ->Prop) ->Prop
def n8(K:W.Frag)(sp:qe):Sp:=fun vs H Q E=>∃F ds P Ex,Same F H/\ak K F ds vs/\sp ds P Ex/\ (∀t v as F' H',Gr F H F' H' ->as.Nodup ->(∀a∈as,F' a=none/\H a=none) ->TR K F' H' t v as ->P t ->Q v H')/\∀C H',Ex C ->Same H H' ->E C none H'
def vo(sp:qe):cD:=fun ds P E=>sp ds (fun t=>P (toD t)) E
open Classical in
theorem zyn{K:W.Frag}{sp:qe}{vs:List V}{H:Hp}{Q:VK}{E:XK}(h:jR K (vo sp) vs H Q E):n8 K sp vs H Q E:=by
 obtain⟨F,ds,P,Ex,h1,h2,h3,h4,h5⟩:=h;refine⟨F,ds,fun t=>P (toD t),Ex,h1,h2,h3,fun t v as F' H' g nd hn r p=> ?_,h5⟩;have s1:Same F' (fun b=>if b∈as then H' b else F' b):=fun b u e=>by
  show(if b∈as then H' b else F' b)=some u;rw[if_neg fun hb=>by rw[(hn b hb).1] at e;cases e]
  exact e
 refine h4 (toD t) v (fun b=>if b∈as then H' b else F' b) H' ⟨g.f.trans s1,fun b u e=> ?_,g.h,fun b o e n=> ?_⟩ (TR.rep s1 t v as (fun a ha u hu=> ?_) r) p
 ·have e' :(if b∈as then H' b else F' b)=some u:=e;split at e'
  ·exact e'
  ·exact g.g b u e'
 ·have e' :(if b∈as then H' b else F' b)=some o:=e;split at e'
  ·rename_i hb;exact .inl (hn b hb).2
  ·exact g.n b o e' n
 ·show(if a∈as then H' a else F' a)=some u;rw[if_pos ha];exact hu
structure m7 (P:Program) (w:World) (K:W.Frag) (mg:Str ->Option Value) (base:Heap) (x:Str) (k:Nat) (ps:List Str) (sp:qe):Prop where
 ex:∃f fd,dX P w K mg base (gK P w) k f fd ps (n8 K sp)/\mg x=some (.ref f)/\W.keepIn K (.ref f)=true/\Binds K fd ps []
theorem m7.fn{P:Program}{w:World}{K:W.Frag}{mg:Str ->Option Value}{base:Heap}{x:Str}{k:Nat}{ps:List Str}{sp:qe}(G:m7 P w K mg base x k ps sp):cR P w K mg base x k ps (vo sp):=by
 obtain⟨f,fd,h1,h2⟩:=G.ex;exact⟨f,fd,h1.imp fun _ _ _ _ q=>zyn q,h2⟩
section
variable{P:Program}{w:World}{K:W.Frag}{mg:Str ->Option Value}{base:Heap}
theorem yO{x qual:Str}{st:Stmt}{f:Addr}{fd:FuncData}{N ps:List Str}{k:Nat}{sp:qe}(Fn:fM K x qual st f fd)(S:aB N ps (bU st))(len:∀ds Q E,sp ds Q E ->ds.length=ps.length)
  (hbody:∀(cdv:Value) (A:Around) (outer:List Env) (s:Shared) (H:Hp) (E:XK),eN k (A.deeper (envOfC qual (bU st) s.heap.objs.size f cdv)) ->∀F0:Hp,
   ∃t,pA (jM (gK P w) P w K mg base N qual (bU st) f cdv A outer s H E) F0 H (rJ st) t/\∀ds Q Ex,sp ds Q Ex ->t {nx:=fun _=>False,rt:=fun _=>False,rT:=Q} (gh N ds) fun _=>Ex):
  dX P w K mg base (gK P w) (k+1) f fd ps (n8 K sp):=by
 obtain⟨oc,od,kV,doc,pm,an,cdv,ct,osl,rfl,lk,hcd⟩:=Fn.ex;refine Wb lk hcd S (fun vs H Q E ⟨F,ds,P',Ex,_,rs,hs,_⟩=>by rw[<- fY rs];exact len _ _ _ hs) fun A outer s H vs Q E hr ⟨F0,ds,Pd,Ex,sF,rs,hsp,hQ,hE⟩=> ?_
 obtain⟨t,ht,hq⟩:=hbody cdv A outer s H E hr F0;have cx:Ctx ((jM (gK P w) P w K mg base N qual (bU st) f cdv A outer s H E).wsh ⟨(jM (gK P w) P w K mg base N qual (bU st) f cdv A outer s H E).xe,[]⟩) F0 H (fun _=>Ex):=by
  refine⟨fun pins σ Γ F H1 s1 e s' I R hx=> ?_,PassesOwn.leaving⟩;refine bD (WQ (E:=fun C dx H' =>E C dx H') I rfl rfl rfl (hx.imp fun C dx H' z=> ?_)) fun _ s'' z=>z;obtain⟨Γ',F',R',_,z1,rfl⟩:=z;exact hE C H' z1 R'.gr.h
 exact⟨_,ht _ _ cx,F0,gh N ds,{nx:=fun _=>False,rt:=fun _=>False,rT:=Pd},W9 sF rs,hq ds Pd Ex hsp,⟨fun _ _ _ _ _ _ q=>q.elim,fun _ _ _ _ _ _ q=>q,fun _ _ _ _ _ _ q=>q,fun _ _ _ _ _ _ q=>q.elim,fun _ _ _ _ _ _ q=>q.elim,fun t v as F' H' gr nd hn r q=>hQ t v as F' H' gr nd hn r q,fun _ _ _ _ _ _ _ _ q=>q.elim⟩⟩
end
def pF(sp:qe)(t:aZ):jj:=fun Γ P E=>t Γ (fun ds Γ1=>sp ds (fun tr=>P tr Γ1) fun C=>E Γ1 C) E
section
variable{X:Cx}{F0 H0:Hp}{e:Expr}{es:List Expr}{pos p:Pos}{x:Str}{ps:List Str}{k:Nat}{sp:qe}{t:aZ}
theorem YX(G:m7 X.prog X.w X.K X.mg X.base x k ps sp)(hr:eN k X.A)(hg:Gl X x)(ha:QA X F0 H0 (e::es) t)(hdb:(x==("__debug__" :Str))=false:=by decide)(he:starEach (e::es) X.env=(false,eval e X.env)::starEach es X.env:=by rfl)(hpl:(backTo pos (starEach es X.env)).any (·.1)=false:=by rfl):
  QN X F0 H0 (.Call (.Name x p) (e::es) [] pos) (pF sp t):=by
 obtain⟨f,fd,Fn,hm,hk,hb⟩:=G.ex;rintro z E cx pins s σ H Q I ⟨F,Γ,P,R,h,kk⟩;refine wpAny_Call_Name_kw (Lq (X:=X.wsh z) I hg hm ?_ hdb);refine W.callWith_K (h₀:=X.base) I.ok.mod.Cz hk (bD (ha z E cx pos pins s σ H (fun vs H1=>∃F1 Γ1 ds,SR X.K F0 H0 F1 H1 σ Γ1/\Same F F1/\ak X.K F1 ds vs/\sp ds (fun d=>P d Γ1) fun C=>E Γ1 C) I ⟨F,Γ,_,R,h,fun ds Γ1 F1 H1 vs R1 s1 r1 h1=>⟨F1,Γ1,ds,R1,s1,r1,h1⟩⟩) fun us s1 ⟨vs,H1,I1,r,F1,Γ1,ds,R1,sF,rs,q⟩=>⟨I1.kIn,?_⟩) he hpl;have hs:n8 X.K sp vs H1 Q (fun C dx H' =>E Γ1 C/\dx=none/\Same H1 H'):=⟨F1,ds,_,_,R1.g,rs,q,fun t v as F' H' gr nd hn rt hp=>kk t Γ1 F' H' v as (R1.grow gr) (sF.trans gr.f) nd (fun a ha=>⟨(hn a ha).1,R1.gr.h.free (hn a ha).2,R1.apart (hn a ha).2⟩) rt hp,fun C H' hE hS=>⟨hE,rfl,hS⟩⟩;have hl:(us++ []).length=ps.length:=by rw[List.append_nil,<- r.length];exact Fn.len _ _ _ _ hs
 have hbs:=hb s1 us I1.kIn hl;rw[List.append_nil] at hbs;refine wpAny_call (codeAny_mono (Fn.run X.A X.stack s1 H1 ⟨us,[]⟩ us vs Q _ hr I1.env0 hbs r hs) fun r s' hq=> ?_);cases r with
 | error e=>exact cx.px pins σ Γ1 F1 H1 s1 e s' I1 R1 hq
 | ok fl=>
  cases fl with
  | ret u=>exact I1.after hq
  | next=>exact False.elim hq
  | brk=>exact False.elim hq
  | cont=>exact False.elim hq
end
def aaZ(i:Nat)(t:TE):TS:=fun D σ H=>∃a vs,σ[i]?=some (some (.ref a))/\H a=some (.lst vs)/\t σ H fun v H1=>∃l us y,V.ref a= .ref l/\ [v]= [y]/\H1 l=some (.lst us)/\us.length<sizeLine/\D.nx σ (upd H1 l (.lst (us++ [y])))
section
variable{X:Cx}{F0 H0:Hp}{e:Expr}{pos npos apos cpos:Pos}{x:Str}{i:Nat}{t:TE}{te:aG}{tn:jj}
def cTA(i:Nat)(te:aG):au:=fun D Γ E=>(∃as ts,Γ[i]?=some (.tr as (.lst ts)))/\te Γ (fun d Γ1=>match Γ1[i]? with | some (.tr as (.lst ts))=>ts.length<sizeLine/\D.nx (Γ1.set i (.tr as (.lst (ts++ [.leaf d])))) | _=>False) E
def cTN(i:Nat)(tn:jj):au:=fun D Γ E=>(∃as ts,Γ[i]?=some (.tr as (.lst ts)))/\tn Γ (fun t Γ1=>match Γ1[i]? with | some (.tr as (.lst ts))=>ts.length<sizeLine/\∀cs,D.nx (Γ1.set i (.tr (as++cs) (.lst (ts++ [t])))) | _=>False) E
end
end L3
namespace L3
open PySem PySem.Spec PyProof.Rows L2
def iV(ks:List Key)(k:Key):Bool:=ks.any fun k' =>decide (k' =k)
theorem kE:iV ks k=true↔k∈ks:=by
 unfold iV;rw[List.any_eq_true];exact⟨fun⟨x,h,e⟩=>of_decide_eq_true e ▸ h,fun h=>⟨k,h,decide_eq_true rfl⟩⟩
def dH(ks:List Key)(k:Key):List Key:=if iV ks k=true then ks else ks++ [k]
def bQ{α:Type}(ks:List Key)(xs:List α)(k:Key)(x:α):List α:=if iV ks k=true then List.zipWith (fun k' y=>if k' =k then x else y) ks xs else xs++ [x]
theorem YZ:∀{ks:List Key} {vs:List V},ks.length=vs.length ->(ks.zip vs).map (fun kv=>if kv.1=k then(kv.1,v) else kv)=ks.zip (List.zipWith (fun k' y=>if k' =k then v else y) ks vs)
 | [],_,_=>rfl
 | _::_,[],h=>by cases h
 | k' ::ks,w::vs,h=>by
  rw[List.zip_cons_cons,List.map_cons,List.zipWith_cons_cons,List.zip_cons_cons,YZ (by simpa using h)]
  by_cases q:k' =k<;>simp [q]
theorem Ry(h:ks.length=vs.length):putK (ks.zip vs) k v=(dH ks k).zip (bQ ks vs k v):=by
 unfold putK dH bQ;have e:((ks.zip vs).any fun kv=>decide (kv.1=k))=true↔iV ks k=true:=by
  rw[kE,List.any_eq_true];constructor
  ·rintro⟨kv,hm,q⟩;have:=List.mem_map_of_mem (f:=(·.1)) hm;rw[Rx h] at this;rw[<- of_decide_eq_true q];exact this
  ·intro hm;rw[<- Rx h] at hm;obtain⟨kv,h1,h2⟩:=zF.mp hm;exact⟨kv,h1,decide_eq_true h2⟩
 by_cases q:iV ks k=true
 ·rw[if_pos (e.mpr q),if_pos q,if_pos q];exact YZ h
 ·rw[if_neg (fun z=>q (e.mp z)),if_neg q,if_neg q,List.zip_append h]
  rfl
theorem Y0(h:ks.length=xs.length):(dH ks k).length=(bQ ks xs k x).length:=by
 unfold dH bQ;split
 ·rw[List.length_zipWith,<- h,Nat.min_self]
 ·simp [h]
theorem Y4{K:W.Frag}{F:Hp}{k:Key}{d:D}{v:V}(r:Rep K F d v):∀{ks:List Key} {xs:List D} {vs:List V},ak K F xs vs ->ak K F (List.zipWith (fun k' y=>if k' =k then d else y) ks xs) (List.zipWith (fun k' y=>if k' =k then v else y) ks vs)
 | [],xs,vs,h=>by simp [ak]
 | _::_,[],vs,h=>by unfold ak at h;subst h;simp [ak]
 | k' ::ks,x::xs,vs,h=>by
  unfold ak at h;obtain⟨u,us,rfl,h1,h2⟩:=h;rw[List.zipWith_cons_cons,List.zipWith_cons_cons];refine oU ?_ (Y4 r h2);by_cases q:k' =k
  ·rw[if_pos q,if_pos q];exact r
  ·rw[if_neg q,if_neg q];exact h1
theorem Y5{K:W.Frag}{F:Hp}{ks:List Key}{xs:List D}{vs:List V}{k:Key}{d:D}{v:V}(h:ak K F xs vs)(r:Rep K F d v):ak K F (bQ ks xs k d) (bQ ks vs k v):=by
 unfold bQ;split
 ·exact Y4 r h
 ·exact xV h (DQ r)
theorem J4{K:W.Frag}{F H:Hp}:∀{xs:List D} {vs:List V} {as:List Addr},cJ K F H (xs.map .leaf) vs as ->as= []/\ak K F xs vs
 | [],vs,as,h=>by rw[List.map_nil] at h;unfold cJ at h;unfold ak;exact⟨h.2,h.1⟩
 | x::xs,vs,as,h=>by
  rw[List.map_cons] at h;unfold cJ at h;obtain⟨v,us,bs,cs,rfl,rfl,h1,h2⟩:=h;unfold TR at h1;obtain⟨rfl,r⟩:=h1;obtain⟨rfl,rs⟩:=J4 h2;exact⟨rfl,oU r rs⟩
def cDP(i:Nat)(tk tv:aG):au:=fun D Γ E=>tv Γ (fun d Γ1=>(∃as t,Γ1[i]?=some (.tr as t))/\tk Γ1 (fun kd Γ2=>match kd,Γ2[i]? with
 | .int k,some (.tr as (.dic ks ts))=>∃xs,ts=xs.map .leaf/\ks.length<sizeLine/\D.nx (Γ2.set i (.tr as (.dic (dH ks (.inl k)) ((bQ ks xs (.inl k) d).map .leaf))))
 | _,_=>False) E) E
section
variable{X:Cx}{F0 H0:Hp}{ke value:Expr}{pos npos pos' :Pos}{x:Str}{i:Nat}{tk tv:aG}
end
section
variable{K:W.Frag}{F0 H0 F H F' H' :Hp}{σ σ' :St}{Γ Γ' :List Slot}
open Classical in
noncomputable def aa0 (Γ:List Slot) (σ:St) (H:Hp):Hp:=fun b=>if mZ Γ σ b then none else H b
end
def Gg(i x:Nat)(a b:Addr)(Bp:List T)(j:Nat)(I:Nat ->G2 ->Prop):G2 ->Prop:=fun Γ' =>∃cs' us',Γ'[x]?=some (Slot.tr (b::cs') (.lst us'))/\Γ'[i]?=some (Slot.pu (.ptr a))/\
 ∀q:List Addr,I (j+1) ((Γ'.set x Slot.no).set i (Slot.tr (a::q) (.lst (Bp.set j (.lst us')))))
def Y6(i x:Nat)(tb:au):au:=fun D0 Γ _=>∃as ts,Γ[i]?=some (Slot.tr as (.lst ts))/\∀a bs,as=a::bs ->∃I:Nat ->G2 ->Prop,I 0 Γ/\
 (∀(j:Nat) Γ1,j<ts.length ->I j Γ1 ->∃bs1 Bp us,Γ1[i]?=some (Slot.tr (a::bs1) (.lst Bp))/\Bp.length=ts.length/\Bp[j]?=some (.lst us)/\
  ∀(b:Addr) (cs:List Addr),tb {nx:=Gg i x a b Bp j I,ct:=fun _=>False,bk:=fun _=>False,rt:=D0.rt,rf:=D0.rf,rT:=D0.rT} ((Γ1.set i (Slot.pu (.ptr a))).set x (Slot.tr (b::cs) (.lst us))) j7)/\
 ∀Γ1,I ts.length Γ1 ->D0.nx Γ1
section
variable{X:Cx}{F0 H0:Hp}{pos px pn:Pos}{xv xn:Str}{i x:Nat}{body:List Stmt}{tb:au}
open Classical in
end
def nL1(t:jj):jj:=fun Γ P E=>t Γ (fun tr Γ1=>P (.lst [tr]) Γ1) E
section
variable{X:Cx}{F0 H0:Hp}{e:Expr}{pos:Pos}{tn:jj}
end
end L3
namespace L3
open PySem PySem.Spec PyProof.Rows L2 PySem.W
structure Ord (lt:Nat ->Nat ->Bool) (n:Nat):Prop where
 tri:∀i j,i<n ->j<n ->i≠j ->lt i j=false ->lt j i=true
 irr:∀i j,i<n ->j<n ->lt i j=true ->lt j i=false
 tr:∀i j k,i<n ->j<n ->k<n ->lt i j=true ->lt j k=true ->lt i k=true
def Sat{α:Type}(lt:Nat ->Nat ->Bool)(n:Nat)(t:KasT α)(Q:α ->Prop):Prop:=yL lt n t=true/\Q (Bk lt t)
section
variable{lt:Nat ->Nat ->Bool}{n:Nat}{α β:Type}
theorem sU(h:Q a):Sat lt n (.ret a) Q:=⟨rfl,h⟩
theorem Bq(hi:i<n)(hj:j<n)(hij:i≠j)(h:Sat lt n (k (lt i j)) Q):Sat lt n (.ask i j k) Q:=by
 refine⟨?_,h.2⟩;unfold yL;simp only [Bool.and_eq_true,decide_eq_true_eq];exact⟨hi,hj,hij,h.1⟩
theorem Br:∀{t:KasT α},Sat lt n t (fun a=>Sat lt n (f a) Q) ->Sat lt n (t.bind f) Q
 | .ret a,h=>h.2
 | .ask i j k,h=>by
  have h1:=h.1;unfold yL at h1;simp only [Bool.and_eq_true,decide_eq_true_eq] at h1;exact Bq h1.1 h1.2.1 h1.2.2.1 (Br ⟨h1.2.2.2,h.2⟩)
theorem Sat.imp(h:Sat lt n t Q)(k:∀a,Q a ->Q' a):Sat lt n t Q' :=⟨h.1,k _ h.2⟩
def Pm(n:Nat)(p:Array Nat):Prop:=p.toList.Perm (List.range n)
theorem Pm.size(h:Pm n p):p.size=n:=by simpa using List.Perm.length_eq h
theorem Gh{p:Array Nat}{k:Nat}(hk:k<p.size):p.getD k 0=p.toList[k]'(by simpa using hk):=by simp [Array.getD,hk]
theorem Pm.below{p:Array Nat}(h:Pm n p){k:Nat}(hk:k<n):p.getD k 0<n:=by
 have hk' :k<p.size:=by rw[h.size];exact hk
 rw[Gh hk'];exact List.mem_range.mp (h.mem_iff.mp (yZ _))
theorem Pm.ne{p:Array Nat}(h:Pm n p){k j:Nat}(hk:k<n)(hj:j<n)(hkj:k≠j):p.getD k 0≠p.getD j 0:=by
 have nd:p.toList.Nodup:=h.nodup_iff.mpr List.nodup_range;rw[Gh (by rw[h.size];exact hk),Gh (by rw[h.size];exact hj)]
 have key:=List.pairwise_iff_getElem.mp nd;rcases Nat.lt_or_gt_of_ne hkj with q | q
 ·exact key k j _ _ q
 ·exact fun z=>key j k _ _ q z.symm
def Lp(lt:Nat ->Nat ->Bool)(p:Array Nat)(i j:Nat):Bool:=lt (p.getD i 0) (p.getD j 0)
def Up(lt:Nat ->Nat ->Bool)(p:Array Nat)(r:Nat):Prop:=∀i j,i<j ->j<r ->Lp lt p i j=true
def Dn(lt:Nat ->Nat ->Bool)(p:Array Nat)(r:Nat):Prop:=∀i j,i<j ->j<r ->Lp lt p j i=true
theorem Rz(O:Ord lt n)(P:Pm n p)(hi:i<n)(hj:j<n)(hij:i≠j)(h:Lp lt p i j=false):Lp lt p j i=true:=O.tri _ _ (P.below hi) (P.below hj) (P.ne hi hj hij) h
theorem J5(O:Ord lt n)(P:Pm n p)(hi:i<n)(hj:j<n)(hk:k<n)(h:Lp lt p i j=true)(h' :Lp lt p j k=true):Lp lt p i k=true:=O.tr _ _ _ (P.below hi) (P.below hj) (P.below hk) h h'
theorem z0q(O:Ord lt n)(P:Pm n p)(hr:r<n)(h1:1<=r)(U:Up lt p r)(h:Lp lt p (r - 1) r=true):Up lt p (r+1):=fun i j hij hj=>by
 rcases Nat.lt_or_ge j r with q | q
 ·exact U i j hij q
 ·obtain rfl:j=r:=by omega
  rcases Nat.lt_or_ge i (j - 1) with q' | q'
  ·exact J5 O P (by omega) (by omega) hr (U i (j - 1) q' (by omega)) h
  ·obtain rfl:i=j - 1:=by omega
   exact h
theorem z1a(O:Ord lt n)(P:Pm n p)(hr:r<n)(h1:1<=r)(U:Dn lt p r)(h:Lp lt p r (r - 1)=true):Dn lt p (r+1):=fun i j hij hj=>by
 rcases Nat.lt_or_ge j r with q | q
 ·exact U i j hij q
 ·obtain rfl:j=r:=by omega
  rcases Nat.lt_or_ge i (j - 1) with q' | q'
  ·exact J5 O P hr (by omega) (by omega) h (U i (j - 1) q' (by omega))
  ·obtain rfl:i=j - 1:=by omega
   exact h
theorem RB(O:Ord lt n)(P:Pm n p):∀(f m:Nat),1<=m ->m+f<=n ->Up lt p m ->Sat lt n (kas_asc p f m) fun r=>m<=r/\r<=m+f/\Up lt p r/\ (r<m+f ->Lp lt p r (r - 1)=true)
 | 0,m,h1,_,U=>sU ⟨zO _,zO _,U,fun z=>absurd z (yX _)⟩
 | f+1,m,h1,hn,U=>by
  unfold kas_asc;refine Bq (P.below (by omega)) (P.below (by omega)) (P.ne (by omega) (by omega) (by omega)) ?_
  cases q:lt (p.getD m 0) (p.getD (m - 1) 0) with
  | true=>
   rw[if_pos rfl];exact sU ⟨zO _,by omega,U,fun _=>q⟩
  | false=>
   rw[if_neg (by decide)]
   refine(RB O P f (m+1) (by omega) (by omega) (z0q O P (by omega) h1 U (Rz O P (by omega) (by omega) (by omega) q))).imp fun r ⟨a1,a2,a3,a4⟩=>⟨by omega,by omega,a3,fun z=>a4 (by omega)⟩
theorem Y7(O:Ord lt n)(P:Pm n p):∀(f m:Nat),1<=m ->m+f<=n ->Dn lt p m ->Sat lt n (kas_desc f p m 0) fun r=>r.1=p/\m<=r.2.1/\r.2.1<=m+f/\r.2.2=0/\Dn lt p r.2.1
 | 0,m,h1,_,U=>sU ⟨rfl,zO _,zO _,rfl,U⟩
 | f+1,m,h1,hn,U=>by
  unfold kas_desc;refine Bq (P.below (by omega)) (P.below (by omega)) (P.ne (by omega) (by omega) (by omega)) ?_
  cases q:lt (p.getD m 0) (p.getD (m - 1) 0) with
  | true=>
   rw[if_pos rfl,if_neg (by decide)]
   exact(Y7 O P f (m+1) (by omega) (by omega) (z1a O P (by omega) h1 U q)).imp fun r hq1=>by obtain⟨a1,a2,a3,a4,a5⟩:=hq1;exact⟨a1,by omega,by omega,a4,a5⟩
  | false=>
   rw[if_neg (by decide)]
   refine Bq (P.below (by omega)) (P.below (by omega)) (P.ne (by omega) (by omega) (by omega)) ?_
   have q' :lt (p.getD (m - 1) 0) (p.getD m 0)=true:=Rz O P (i:=m) (j:=m - 1) (by omega) (by omega) (by omega) q
   rw[q',if_pos rfl];exact sU ⟨rfl,zO _,by show m<=_;omega,rfl,U⟩
theorem Y8(P:Pm n p)(i j:Nat):Pm n (kas_rev p i j):=(Array.perm_iff_toList_perm.mp (mirror_perm p i j ((j - i)/2))).trans P
theorem getD_get?{p q:Array Nat}{i j:Nat}(h:p[i]?=q[j]?):p.getD i 0=q.getD j 0:=by
 rw[Array.getD_eq_getD_getElem?,Array.getD_eq_getD_getElem?,h]
theorem Y9{p:Array Nat}{m k:Nat}(hm:m<=p.size)(hk:k<m):(kas_rev p 0 m).getD k 0=p.getD (m - 1 - k) 0:=by
 have e:=getElem?_mirror_all (i:=0) hm k;rw[if_pos ⟨Nat.zero_le _,hk⟩] at e;have:=getD_get? e;rw[show 0+m - 1 - k=m - 1 - k by omega] at this
 exact this
theorem z0n(O:Ord lt n)(P:Pm n p)(h1:1<=m)(hm:m<=n)(D:Dn lt p m):Sat lt n (kas_tail3 m n p) fun r=>Pm n r.2/\1<=r.1/\r.1<=n/\Up lt r.2 r.1:=by
 unfold kas_tail3;have U:Up lt (kas_rev p 0 m) m:=fun i j hij hj=>by
  unfold Lp;rw[Y9 (by rw[P.size];exact hm) (by omega),Y9 (by rw[P.size];exact hm) hj]
  exact D (m - 1 - j) (m - 1 - i) (by omega) (by omega)
 exact Br ((RB O (Y8 P 0 m) (n - m) m h1 (by omega) U).imp fun r ⟨a1,a2,a3,_⟩=>sU ⟨Y8 P 0 m,by show 1<=r;omega,by show r<=n;omega,a3⟩)
theorem z2f(O:Ord lt n)(P:Pm n p)(h1:1<=n):Sat lt n (kas_count n p) fun r=>Pm n r.2/\1<=r.1/\r.1<=n/\Up lt r.2 r.1:=by
 unfold kas_count;refine Br ((RB O P (n - 1) 1 (zO _) (by omega) (fun i j a b=>by omega)).imp fun r ⟨a1,a2,a3,a4⟩=> ?_)
 by_cases e:r=n
 ·rw[if_pos (by simp [e])]
  exact sU ⟨P,a1,by show r<=n;omega,a3⟩
 ·rw[if_neg (by simp [e])]
  by_cases g:r>1
  ·rw[if_pos g];refine Bq (P.below (by omega)) (P.below (by omega)) (P.ne (by omega) (by omega) (by omega)) ?_
   have q:lt (p.getD 0 0) (p.getD (r - 1) 0)=true:=a3 0 (r - 1) (by omega) (by omega)
   rw[q,if_pos rfl];exact sU ⟨P,a1,by show r<=n;omega,a3⟩
  ·rw[if_neg g];obtain rfl:r=1:=by omega
   unfold kas_descPart;have q:=a4 (by omega)
   have D:Dn lt p 2:=fun i j hij hj=>by
    obtain rfl:i=0:=by omega
    obtain rfl:j=1:=by omega
    exact q
   refine Br ((Y7 O P (n - (1+1)) (1+1) (by omega) (by omega) D).imp fun r hq2=> ?_)
   obtain⟨b1,b2,b3,b4,b5⟩:=hq2;rw[if_neg (by omega),b1]
   exact z0n O P (by omega) (by omega) b5
theorem RD(O:Ord lt n)(P:Pm n p)(hk:k<n)(U:Up lt p k):∀(f l r:Nat),l<=r ->r<=k ->r - l<=f ->(∀j,j<l ->Lp lt p j k=true) ->(∀j,r<=j ->j<k ->Lp lt p k j=true) ->
  Sat lt n (kas_place p k f l r) fun x=>x<=k/\ (∀j,j<x ->Lp lt p j k=true)/\∀j,x<=j ->j<k ->Lp lt p k j=true
 | 0,l,r,h1,h2,h3,h4,h5=>sU ⟨by omega,h4,fun j a b=>h5 j (by omega) b⟩
 | f+1,l,r,h1,h2,h3,h4,h5=>by
  unfold kas_place;by_cases g:l≥r
  ·rw[if_pos g];exact sU ⟨by omega,h4,fun j a b=>h5 j (by omega) b⟩
  ·rw[if_neg g];have m1:l<=(l+r)/2:=by omega
   have m2:(l+r)/2<r:=by omega
   refine Bq (P.below hk) (P.below (by omega)) (P.ne hk (by omega) (by omega)) ?_
   cases q:lt (p.getD k 0) (p.getD ((l+r)/2) 0) with
   | true=>
    rw[if_pos rfl];refine RD O P hk U f l _ m1 (by omega) (by omega) h4 fun j a b=> ?_
    rcases Nat.lt_or_ge ((l+r)/2) j with z | z
    ·exact J5 O P hk (by omega) (by omega) q (U _ j z b)
    ·obtain rfl:j=(l+r)/2:=by omega
     exact q
   | false=>
    rw[if_neg (by decide)]
    have q' :Lp lt p ((l+r)/2) k=true:=Rz O P hk (by omega) (by omega) q
    refine RD O P hk U f _ r (by omega) h2 (by omega) (fun j a=> ?_) h5
    rcases Nat.lt_or_ge j ((l+r)/2) with z | z
    ·exact J5 O P (by omega) (by omega) hk (U j _ z (by omega)) q'
    ·obtain rfl:j=(l+r)/2:=by omega
     exact q'
theorem z4q(P:Pm n p)(k d:Nat):Pm n (bubble p k d):=(Array.perm_iff_toList_perm.mp (bubble_perm p k d)).trans P
theorem Za(O:Ord lt n):∀(f:Nat) (p:Array Nat) (k:Nat),Pm n p ->k+f=n ->Up lt p k ->Sat lt n (kas_bin f p k) fun q=>Pm n q/\Up lt q n
 | 0,p,k,P,h,U=>by
  obtain rfl:k=n:=by omega
  exact sU ⟨P,U⟩
 | f+1,p,k,P,h,U=>by
  unfold kas_bin;have hk:k<n:=by omega
  refine Br ((RD O P hk U k 0 k (Nat.zero_le _) (zO _) (by omega) (fun j a=>by omega) (fun j a b=>by omega)).imp fun l ⟨a1,a2,a3⟩=> ?_)
  refine Za O f _ (k+1) (z4q P k (k - l)) (by omega) fun i j hij hj=> ?_
  have at' :∀x,(bubble p k (k - l)).getD x 0=if x=l then p.getD k 0 else if l<x/\x<=k then p.getD (x - 1) 0 else p.getD x 0:=fun x=>by
   have e:=getElem?_bubble (xs:=p) (src:=k) (by rw[P.size];exact hk) (k - l) (by omega) x
   rw[show k - (k - l)=l by omega] at e
   split
   ·rename_i q;rw[if_pos q] at e;exact getD_get? e
   ·rename_i q;rw[if_neg q] at e;split
    ·rename_i q2;rw[if_pos q2] at e;exact getD_get? e
    ·rename_i q2;rw[if_neg q2] at e;exact getD_get? e
  show lt _ _=true;rw[at',at'];by_cases e1:i=l
  ·rw[if_pos e1,if_neg (by omega),if_pos (by omega)]
   exact a3 (j - 1) (by omega) (by omega)
  ·rw[if_neg e1];by_cases e2:j=l
   ·rw[if_pos e2,if_neg (by omega)]
    exact a2 i (by omega)
   ·rw[if_neg e2];by_cases e3:l<i/\i<=k
    ·rw[if_pos e3,if_pos (by omega)]
     exact U (i - 1) (j - 1) (by omega) (by omega)
    ·rw[if_neg e3];by_cases e4:l<j/\j<=k
     ·rw[if_pos e4];exact U i (j - 1) (by omega) (by omega)
     ·rw[if_neg e4];exact U i j hij (by omega)
theorem z2v(O:Ord lt n):Sat lt n (kas_sort n) fun q=>Pm n q/\Up lt q n:=by
 unfold kas_sort;have P0:Pm n (List.toArray (List.range n)):=by unfold Pm;exact List.Perm.refl _
 by_cases h0:n=0
 ·subst h0;exact⟨rfl,(by unfold Pm;exact List.Perm.refl _),fun i j _ hj=>absurd hj (Nat.not_lt_zero _)⟩
 ·refine Br ((z2f O P0 (by omega)).imp fun r ⟨a1,a2,a3,a4⟩=> ?_)
  by_cases g:r.1<n
  ·rw[if_pos g,show max r.1 1=r.1 by omega]
   exact Za O _ _ _ a1 (by omega) a4
  ·rw[if_neg g];obtain e:r.1=n:=by omega
   exact sU ⟨a1,e ▸ a4⟩
end
end L3
namespace L3
open PySem PySem.Spec PyProof.Rows L2
def mD(lt:Nat ->Nat ->Bool)(is:List Nat):Prop:=is.Pairwise fun i j=>lt i j=true
theorem z2z(P:Pm n q)(U:Up lt q n):mD lt q.toList:=by
 unfold mD;rw[List.pairwise_iff_getElem];intro i j hi hj hij;have hj' :j<q.size:=by simpa using hj
 have hi' :i<q.size:=by omega
 have:=U i j hij (by rw[<- P.size];exact hj')
 unfold Lp at this;rw[Gh hi',Gh hj'] at this;exact this
structure vp (prog:Program) (w:World) (A:Around) (E:bH) (vs:List Value) (lt:Nat ->Nat ->Bool) (T:Heap ->Prop) (κ:SortKind):Prop where
 kind:∀(s:Shared) (Q:SortKind ->Shared ->Prop),T s.heap ->2<=vs.length ->Q κ s ->wpAny (model prog w) A (keyKind' vs.toArray) Q E s
 ask:∀(s:Shared) (i j:Nat) (C:Bool ->Shared ->Prop),T s.heap ->i<vs.length ->j<vs.length ->i≠j ->C (lt i j) s ->W.kas_ask prog w A κ vs i j C s
section
variable{prog:Program}{w:World}{A:Around}{E:bH}{s:Shared}
theorem zko{a:Addr}{vs:List Value}{lt:Nat ->Nat ->Bool}{T:Heap ->Prop}{κ:SortKind}{n:Nat}{P:PySem.Fin ->Shared ->Prop}(hob:s.heap.get? a=some (seqObj "list" vs.toArray n))(O:Ord lt vs.length)(hT:T s.heap)
  (hst:∀h',(∀x o,s.heap.get? x=some o ->x≠a ->h'.get? x=some o) ->T h') (K:vp prog w A E vs lt T κ) (h64:vs.length<64)
  (h:∀is:List Nat,is.Perm (List.range vs.length) ->mD lt is ->P (.done (.ret .none)) {s with heap:=sortedHeap s.heap a vs (is.map fun i=>vs.getD i Value.none).toArray}):wpAny (model prog w) A (Builtin.«list.sort» ⟨[.ref a],[]⟩) P E s:=by
 have hal:a<s.heap.objs.size:=zJ hob;have Bs:vs.length<=sizeLine:=by rw[sizeLine_eq];omega
 rw[list_sort_plain];refine z6 (listItems_at (n:=n) hob rfl ?_);refine z6 (listUpdate_at (n:=n) hob rfl ?_ (by rw[List.size_toArray];exact Bs) (Nat.zero_le _))
 obtain⟨ea,hoa⟩:∃ea,(s.heap.update a (Obj.mapSeq fun _=> #[])).get? a=some (seqObj "list" #[] ea):=⟨_,get?_update_seq hob (fun _=> #[])⟩;refine z6 (seqEpoch_at (n:=ea) hoa rfl ?_);refine z6 (wpAny_newTuple ?_ (by simpa using Bs))
 refine z6 (wpAny_newList ?_ (Nat.zero_le _));refine wpAny_holding (m:=_) ?_;have vq:(((s.heap.update a (Obj.mapSeq fun _=> #[])).push (seqObj "tuple" vs.toArray 0)).push (seqObj "list" #[] 0)).get? a=some (seqObj "list" #[] ea):=by
  refine Eq.trans (zB _ _ _ ?_) (Eq.trans (zB _ _ _ ?_) hoa)
  ·rw[size_push',Heap.size_update];exact zL (Nat.lt_succ_of_lt hal)
  ·rw[Heap.size_update];exact zL hal
 have T2:T (((s.heap.update a (Obj.mapSeq fun _=> #[])).push (seqObj "tuple" vs.toArray 0)).push (seqObj "list" #[] 0)):=hst _ fun x o hx hxa=>by
  have hlt:=zJ hx;refine Eq.trans (zB _ _ _ ?_) (Eq.trans (zB _ _ _ ?_) (Eq.trans (Heap.get?_update_ne _ _ _ _ hxa) hx))
  ·rw[size_push',Heap.size_update];exact zL (Nat.lt_succ_of_lt hlt)
  ·rw[Heap.size_update];exact zL hlt
 show wpAny (model prog w) A _ P E ({s with heap:=((s.heap.update a (Obj.mapSeq fun _=> #[])).push (seqObj "tuple" vs.toArray 0)).push (seqObj "list" #[] 0)}:Shared);dsimp only;have hsv:vs.toArray.size=vs.length:=List.size_toArray ..;by_cases hfew:vs.toArray.size<2
 ·rw[if_pos hfew,if_pos hfew];refine z6 (z7 (α:=_) ?_);rw[StateT.run_pure];refine z6 (z7 (α:=_) ?_);dsimp only;refine z6 (seqEpoch_at (n:=ea) vq rfl ?_);have eo:(arrOf (SortSt.mk' general' (vs.toArray.zip vs.toArray) #[] 7 none)).map (·.2)=((List.range vs.length).map fun i=>vs.getD i Value.none).toArray:=by
   show(vs.toArray.zip vs.toArray).map (·.2)=_;apply Array.toList_inj.mp;apply List.ext_getElem
   ·simp
   ·intro i q1 q2;have:i<vs.length:=by simpa using q2
    simp [this]
  rw[eo];refine z6 (listUpdate_at (n:=ea) vq rfl ?_ (Nat.zero_le _) ?_)
  ·simp only [bne_self_eq_false,Bool.false_eq_true,if_false];refine z7 (α:=_) (h _ (.refl _) ?_);unfold mD;rw[List.pairwise_iff_getElem];intro i j hi hj hij;have:j<vs.length:=by simpa using hj
   omega
  ·simp;omega
 ·rw[if_neg hfew,if_neg hfew];refine z6 (K.kind _ _ T2 (by omega) ?_)
  obtain⟨ok,Pq,Uq⟩:=z2v O;show wpAny _ _ (StateT.run sortRuns' (SortSt.mk' κ (vs.toArray.zip vs.toArray) #[] 7 none)>>=_) _ _ _;refine z6 (wpAny_mono (W.kat_run (Q:=fun st' s' =>∃p:Array Nat,p.size=vs.length/\arrOf st' =p.map (W.kas_item (vs.toArray.zip vs.toArray))/\failedOf st' =none/\p=Bk lt (W.kas_sort vs.length)/\s' ={s with heap:=((s.heap.update a (Obj.mapSeq fun _=> #[])).push (seqObj "tuple" vs.toArray 0)).push (seqObj "list" #[] 0)})
   (G:=fun p s' =>p=Bk lt (W.kas_sort vs.length)/\s' ={s with heap:=((s.heap.update a (Obj.mapSeq fun _=> #[])).push (seqObj "tuple" vs.toArray 0)).push (seqObj "list" #[] 0)})
   rfl (by omega) (by omega) (fun p st' s' a1 a2 a3 a4=>⟨p,a1,a2,a3,a4⟩) ?_) ?_ fun _ _ y=>y)
  ·exact Yk (fun i j C hi hj hij hC=>K.ask _ i j C T2 hi hj hij hC) _ _ ok ⟨rfl,rfl⟩
  ·rintro⟨⟨⟩,st'⟩ s' ⟨p,hp,har,hf,rfl,rfl⟩;dsimp only;have eo:=W.kat_snds (vs:=vs) rfl har;rw[eo];refine z6 (seqEpoch_at (n:=ea) vq rfl ?_);refine z6 (listUpdate_at (n:=ea) vq rfl ?_ (Nat.zero_le _) ?_)
   ·rw[hf];simp only [bne_self_eq_false,Bool.false_eq_true,if_false];exact z7 (α:=_) (h _ Pq (z2z Pq Uq))
   ·exact zP (Nat.le_of_eq (zvr hp)) (by omega)
theorem Zb{src:Value}{Q:bH}
  (hc:wpAny (model prog w) A.in1 (collect src) (fun vs s1=>∃lt T κ,Ord lt vs.length/\vs.length<64/\vp prog w A.in1.in1 E vs lt T κ/\ (∀h2:Heap,(∀x o,s1.heap.get? x=some o ->h2.get? x=some o) ->T h2)/\
   ∀(l:Addr) (h' :Heap) (is:List Nat) e,s1.heap.objs.size<=l ->is.Perm (List.range vs.length) ->mD lt is ->h'.get? l=some (seqObj "list" (is.map fun i=>vs.getD i Value.none).toArray e) ->(∀b ob,s1.heap.get? b=some ob ->h'.get? b=some ob) ->Q (.ref l) {s1 with heap:=h'}) E s):
  wpAny (model prog w) A (call (.builtin "sorted") [src]) Q E s:=by
 refine Calls.call_function_entry kind_sorted plain_sorted entry_sorted (args_sorted1 _) (show wpAny _ _ (Builtin.«sorted» _) _ _ _ from ?_);unfold Builtin.«sorted»;refine z6 (m:=checkCount "sorted" 1 1 _) (z7 (α:=_) ?_);refine z6 (m:=collect _) (wpAny_mono hc (fun vs s1 rR=> ?_) fun _ _ y=>y);obtain⟨lt,T,κ,O,h64,K,hT2,h⟩:=rR;have Bs:vs.length<=sizeLine:=by rw[sizeLine_eq];omega
 refine z6 (wpAny_newList ?_ Bs);have hoL:(s1.heap.push (seqObj "list" vs.toArray 0)).get? s1.heap.objs.size=some (seqObj "list" vs.toArray 0):=z9 _ rfl;refine z6 (m:=holding _ _) (wpAny_holding (vs:= [_]) (wpAny_call_entry slot_list_sort ⟨_,hoL,rfl⟩ entry_list_sort (zko (T:=T) hoL O (hT2 _ fun x o e=>z8 _ e) (fun h' k=>hT2 _ fun x o e=>k x o (z8 _ e) (zL (zJ e))) K h64 fun is a1 a2=>⟨_,rfl,?_⟩) (args_list_sort _)));refine z7 (α:=_) ⟨_,rfl,?_⟩;obtain⟨e,he⟩:=z5y (vs:=vs) (out:=(is.map fun i=>vs.getD i Value.none).toArray) hoL;refine h s1.heap.objs.size _ is e (zO _) a1 a2 he fun b ob eb=> ?_;exact z39 (z8 _ eb) (zL (zJ eb))
end
def iI(a b:Str):Bool:=decide (a.cps.toList<b.cps.toList)
theorem Zc(a:Str):iI a a=false:=by unfold iI;simpa using List.lt_irrefl a.cps.toList
theorem Zd(h1:iI a b=true)(h2:iI b c=true):iI a c=true:=by
 unfold iI at*;simp only [decide_eq_true_eq] at*;exact List.lt_trans h1 h2
theorem z12(h1:iI a b=false)(h2:a≠b):iI b a=true:=by
 unfold iI at*;simp only [decide_eq_false_iff_not,decide_eq_true_eq] at*;cases q:decide (b.cps.toList<a.cps.toList) with
 | true=>exact of_decide_eq_true q
 | false=>
  have:=List.le_antisymm (List.not_lt.mp h1) (List.not_lt.mp (of_decide_eq_false q));exact absurd (by cases a;cases b;simp at this;rw[this]) h2
theorem zxd(h:iI a b=true):iI b a=false:=by
 cases q:iI b a with
 | false=>rfl
 | true=>have:=Zd h q;rw[Zc] at this;cases this
def Bt(xs:List Str)(i j:Nat):Bool:=iI (xs.getD i Str.empty) (xs.getD j Str.empty)
theorem qP{α:Type}{xs:List α}{i:Nat}{d:α}(h:i<xs.length):xs.getD i d=xs[i]:=by
 rw[List.getD_eq_getElem?_getD,List.getElem?_eq_getElem h];rfl
theorem Ze{xs:List Str}(nd:xs.Nodup):Ord (Bt xs) xs.length:=by
 have key:=List.pairwise_iff_getElem.mp nd;refine⟨fun i j hi hj hij h=> ?_,fun i j _ _ h=>zxd h,fun i j k _ _ _ h1 h2=>Zd h1 h2⟩;refine z12 h ?_;rw[qP hi,qP hj];rcases Nat.lt_or_gt_of_ne hij with q | q
 ·exact key i j hi hj q
 ·exact fun z=>key j i hj hi q z.symm
def pick{α:Type}(d:α)(xs:List α)(is:List Nat):List α:=is.map fun i=>xs.getD i d
theorem Zf{α:Type}{d:α}{xs:List α}{is:List Nat}(h:is.Perm (List.range xs.length)):(pick d xs is).Perm xs:=by
 have e:(List.range xs.length).map (fun i=>xs.getD i d)=xs:=by
  apply List.ext_getElem
  ·simp
  ·intro i q1 q2;simp only [List.getElem_map,List.getElem_range];exact qP q2
 have:=h.map fun i=>xs.getD i d;rw[e] at this;exact this
theorem Zg(h:mD (Bt xs) is):(pick Str.empty xs is).Pairwise fun a b=>iI a b=true:=by
 unfold pick;rw[List.pairwise_map];exact h
theorem J6{xs:List Str}{vs:List Value}(r:Vals (xs.map V.str) vs){i:Nat}(hi:i<xs.length):∃t,vs.getD i Value.none= .str (xs.getD i Str.empty) t:=by
 obtain⟨u,e,ru⟩:=r.get (i:=i) (x:= .str (xs.getD i Str.empty)) (by rw[List.getElem?_map,List.getElem?_eq_getElem hi,qP (d:=Str.empty) hi];rfl)
 rw[List.getD_eq_getElem?_getD,e];exact ru
theorem zxj{prog:Program}{w:World}{A:Around}{E:bH}{xs:List Str}{vs:List Value}(r:Vals (xs.map V.str) vs):vp prog w A E vs (Bt xs) (fun _=>True) oneType' :=by
 have hl:vs.length=xs.length:=by have:=r.length;simpa using this.symm
 refine⟨fun s Q _ h2 hQ=>W.kas_kind (T:= .type "str") h2 (fun v hv=> ?_) (by decide) (by decide) hQ,fun s i j C _ hi hj _ hC=> ?_⟩
 ·obtain⟨k,hk,rfl⟩:=List.mem_iff_getElem.mp hv;obtain⟨t,e⟩:=J6 r (i:=k) (by omega)
  rw[qP hk] at e;rw[e];exact W.Looks.of_pure rfl
 ·obtain⟨t,e⟩:=J6 r (i:=i) (by omega)
  obtain⟨u,e'⟩:=J6 r (i:=j) (by omega)
  unfold W.kas_ask;rw[e,e',keyLt'_oneType];exact oneLt_str hC
def vA:Value ->Key | .int i _=> .inl i | .str x _=> .inr x | _=> .inl 0
theorem z2s:∀k v,(iB prog w).is k v=true ->vA v=k:=fun k v h=>by
 rcases qu h with ⟨i,t,rfl,rfl⟩ | ⟨x,t,rfl,rfl⟩<;>rfl
theorem Zh:∀{vs:List Value} {ys:List Str},(∀v∈vs,(∃k,(iB prog w).is k v=true)/\v.scannable=true) ->vs.map vA=ys.map Sum.inr ->Vals (ys.map V.str) vs
 | [],[],_,_=> .nil
 | [],_::_,_,h=>by cases h
 | _::_,[],_,h=>by cases h
 | v::vs,y::ys,h,e=>by
  obtain⟨⟨k,hk⟩,_⟩:=h v zY;rw[List.map_cons,List.map_cons] at e;injection e with e1 e2;refine .cons ?_ (Zh (fun u hu=>h u (zX _ hu)) e2);rcases qu hk with ⟨i,t,rfl,rfl⟩ | ⟨x,t,rfl,rfl⟩
  ·cases e1
  ·have:x=y:=by injection e1
   subst this;exact⟨t,rfl⟩
theorem zwa:∀{ks:List Key} {xs:List Str},ks.Perm (xs.map Sum.inr) ->∃ys:List Str,ks=ys.map Sum.inr/\ys.Perm xs:=fun{ks xs} h=>by
 have e:ks=(ks.map fun k=>match k with | .inr x=>x | .inl _=>Str.empty).map Sum.inr:=by
  rw[List.map_map];refine Eq.trans (List.map_id ks).symm (List.map_congr_left fun k hk=> ?_);obtain⟨x,_,rfl⟩:=zF.mp (h.mem_iff.mp hk)
  rfl
 refine⟨_,e,?_⟩;have:=h.map fun k:Key=>match k with | .inr x=>x | .inl _=>Str.empty
 rw[List.map_map] at this;refine this.trans ?_;rw[show(List.map ((fun k:Key=>match k with | .inr x=>x | .inl _=>Str.empty) ∘ Sum.inr) xs)=xs from List.map_id' xs]
def ju(xs:List Str):List Str:=(fJ (fun i=>(Sum.inr (xs.getD i Str.empty):Key)) xs.length).map fun k=>match k with | .inr x=>x | .inl _=>Str.empty
theorem RG(xs:List Str):fJ (fun i=>(Sum.inr (xs.getD i Str.empty):Key)) xs.length=(ju xs).map Sum.inr:=by
 unfold ju;rw[List.map_map];refine Eq.trans (List.map_id _).symm (List.map_congr_left fun k hk=> ?_);obtain⟨j,_,rfl⟩:=(Rj _).mp hk
 rfl
theorem oh{xs:List Str}{x:Str}:x∈ju xs↔x∈xs:=by
 have e:x∈ju xs↔ (Sum.inr x:Key)∈fJ (fun i=>(Sum.inr (xs.getD i Str.empty):Key)) xs.length:=by
  rw[RG,List.mem_map];constructor
  ·exact fun h=>⟨x,h,rfl⟩
  ·rintro⟨y,h,e⟩;have:y=x:=by injection e
   rw[<- this];exact h
 rw[e,Rj];constructor
 ·rintro⟨j,hj,e⟩;have:xs.getD j Str.empty=x:=by injection e
  rw[<- this,qP hj];exact yZ hj
 ·intro h;obtain⟨j,hj,e⟩:=List.mem_iff_getElem.mp h;exact⟨j,hj,by rw[qP hj,e]⟩
theorem Zi(xs:List Str):(ju xs).Nodup:=by
 have:=Yv (fun i=>(Sum.inr (xs.getD i Str.empty):Key)) xs.length;rw[RG] at this;exact List.Pairwise.imp (fun{a b} h z=>h (by rw[z])) (List.pairwise_map.mp this)
def sV(P:Program)(w:World)(a:Addr)(xs:List Str):HO:= .ext fun h=>kh (iB P w) vA (fW w) h a ((ju xs).map Sum.inr)
def wu(X:Cx):List V ->Hp ->VK ->Prop:=fun vs H Q=>∃(p:Addr) (xs:List Str),vs= [.ref p]/\fL X.K H p (xs.map .str)/\xs.length+1<scanBound/\∀q,H q=none ->Q (.ref q) (upd H q (sV X.prog X.w q xs))
def Gi(X:Cx):List V ->Hp ->VK ->Prop:=fun vs H Q=>∃(q:Addr) (xs:List Str),vs= [.ref q]/\H q=some (sV X.prog X.w q xs)/\ (ju xs).length<64/\
 ∀(l:Addr) (ms:List Str),H l=none ->ms.Perm (ju xs) ->ms.Pairwise (fun a b=>iI a b=true) ->Q (.ref l) (upd H l (.lst (ms.map .str)))
theorem zs0(hc:X.calm=true):cg X (.type "set") (wu X):=by
 rintro pins s σ H xs us Q I r ⟨p,ns,e0,hq,hb,k⟩;subst e0;obtain⟨u,rfl,rx⟩:=vals1 r;cases rx;obtain⟨its,rv,pl,hz⟩:=I.list hq;have hl:=rv.length;rw[List.length_map] at hl;have hsz:its.toArray.size=ns.length:=by simpa using hl.symm
 refine zoo (κ:=Key) (knd:=iB X.prog X.w) (kf:=vA) z2s (val:=fun i=> .inr (ns.getD i Str.empty)) (I.ok.hd hc) pl.isList (fun i v hv=> ?_) (by rw[hsz];exact hb) fun h' tk hS hold=> ?_
 ·have hi:i<ns.length:=by rw[hl];exact(zW.mp (by simpa using hv)).1
  obtain⟨t,e⟩:=J6 rv hi;rw[List.getD_eq_getElem?_getD,show its[i]?=some v by simpa using hv] at e
  have e' :v= .str (ns.getD i Str.empty) t:=e;subst e';exact⟨Vo _ _ _ _,rfl⟩
 ·rw[hsz,RG] at hS;have I2:Inv X pins σ (upd H s.heap.objs.size (sV X.prog X.w s.heap.objs.size ns)) {s with heap:=h',toks:=tk}:=
   I.laid (t' :=tk) hold (zO _) (show bw X.prog X.w _ _ _ (sV X.prog X.w s.heap.objs.size ns) from ⟨hS,by obtain⟨o,_,_,_,e,_⟩:=hS;exact⟨o,e⟩,fun h1 h2 q st=>q.stay st⟩)
  exact⟨.ref s.heap.objs.size,_,I2,rfl,k _ (I.hok.fresh (zO _))⟩
theorem Zj(r:Vals xs vs)(h:∀i∈is,i<xs.length):Vals (pick .non xs is) (is.map fun i=>vs.getD i Value.none):=Ym r h
theorem RJ{α β:Type}{f:α ->β}{d:α}{xs:List α}{is:List Nat}{e:β}(h:∀i∈is,i<xs.length):pick e (xs.map f) is=(pick d xs is).map f:=by
 unfold pick;rw[List.map_map];refine List.map_congr_left fun i hi=> ?_;show(xs.map f).getD i e=f (xs.getD i d);rw[qP (by rw[List.length_map];exact h i hi),qP (h i hi),List.getElem_map]
theorem zs3{X:Cx}(hc:X.calm=true):cg X (.builtin "sorted") (Gi X):=by
 rintro pins s σ H xs us Q I r ⟨q,ns,e0,hq,h64,k⟩;subst e0;obtain⟨u,rfl,rx⟩:=vals1 r;cases rx;obtain⟨⟨o,es,ep,t,hg,O⟩,_,_⟩:=I.hok q _ hq;have hlk:es.size=(ju ns).length:=by simpa using O.key.length_eq
 have line:(64:Nat)<=sizeLine:=by decide
 refine Zb (zox (by simp [I.ok.hd hc]) hg O (by omega) fun vals h1 d tk hk hm hlt hold=> ?_)
 obtain⟨ys,e1,hp⟩:=zwa hk;have rv:=Zh hm e1;have Bm:vals.length=ys.length:=by have:=rv.length;simpa using this.symm
 have hly:ys.length=(ju ns).length:=hp.length_eq;refine⟨Bt ys,_,_,by rw[Bm];exact Ze (hp.nodup_iff.mpr (Zi ns)),by omega,zxj rv,fun _ _=>trivial,fun l h' is e hle a1 a2 hl sW=> ?_⟩
 have hlt2:s.heap.objs.size<=l:=zP (Nat.le_of_lt hlt) hle;have hix:∀i∈is,i< (ys.map V.str).length:=fun i hi=>by
  rw[List.length_map,<- Bm];exact List.mem_range.mp (a1.mem_iff.mp hi)
 have hrv:=Zj rv hix;rw[RJ (d:=Str.empty) (fun i hi=>by have:=hix i hi;rwa [List.length_map] at this)] at hrv
 have hms:(pick Str.empty ys is).Perm (ju ns):=(Zf (by rw[<- Bm];exact a1)).trans hp
 have hlen:((pick Str.empty ys is).map V.str).length<=sizeLine:=by rw[List.length_map,hms.length_eq];omega
 have I2:Inv X pins σ (upd H l (.lst ((pick Str.empty ys is).map .str))) {s with heap:=h',toks:=tk}:=
  I.laid (t' :=tk) (fun b ob eb=>sW b ob (hold b ob eb)) hlt2 (show bw X.prog X.w _ _ _ (.lst ((pick Str.empty ys is).map .str)) from ⟨hlen,_,e,hrv,hl⟩)
 exact⟨.ref l,_,z32 I2 d,rfl,k l _ (I.hok.fresh hlt2) hms (Zg a2)⟩
def kJ:List D ->Option (List Str)
 | []=>some []
 | .str x::r=>(kJ r).map (x:: ·)
 | _::_=>none
theorem Zk{K:W.Frag}{F:Hp}:∀{ds:List D} {vs:List V} {xs:List Str},ak K F ds vs ->kJ ds=some xs ->vs=xs.map .str
 | [],vs,xs,r,h=>by unfold ak at r;cases h;subst r;rfl
 | d::ds,vs,xs,r,h=>by
  unfold ak at r;obtain⟨v,us,rfl,r1,r⟩:=r;cases d with
  | str x=>
   unfold kJ at h;unfold Rep at r1;subst r1;cases q:kJ ds with
   | none=>rw[q] at h;cases h
   | some ms=>rw[q] at h;cases h;rw[Zk r q];rfl
  | _=>cases h
theorem RK{K:W.Frag}{F:Hp}:∀xs:List Str,ak K F (xs.map .str) (xs.map V.str)
 | []=>by unfold ak;rfl
 | n::ns=>oU (by unfold Rep;rfl) (RK ns)
def J7:List D ->(List D ->Prop) ->Prop:=fun ds P=>match ds with
 | [.lst xs]=>∃ns,kJ xs=some ns/\ns.length<4095/\ (ju ns).length<64/\∀ms:List Str,ms.Pairwise (fun a b=>iI a b=true) ->(∀i,i∈ms↔i∈ns) ->P (ms.map .str)
 | _=>False
section
variable{X:Cx}{F0 H0:Hp}{a e:Expr}{pos p pos2 p2:Pos}{t:aZ}
theorem zxt(hc:X.calm=true)(hg:Gl X "sorted")(hm:X.mg "sorted" =none)(hg2:Gl X "set")(hm2:X.mg "set" =none)(ha:QA X F0 H0 [a] t)(hb:bootBuiltins "sorted" =some (.builtin "sorted"):=by decide+kernel)
  (he:starEach [a] X.env=(false,eval a X.env)::starEach [] X.env:=by rfl) (he2:starEach [.Call (.Name "set" p2) [a] [] pos2] X.env=(false,eval (.Call (.Name "set" p2) [a] [] pos2) X.env)::starEach [] X.env:=by rfl):
  QF X F0 H0 (.Call (.Name "sorted" p) [.Call (.Name "set" p2) [a] [] pos2] [] pos) (ur J7 t):=fun z E cx=>by
 have inner:PE (X.wsh z) (.Call (.Name "set" p2) [a] [] pos2) (Ds (wu (X.wsh z)) (Ef X.K F0 H0 t E)):=Nf (X:=X.wsh z) (zs0 hc) hg2 hm2 zx3 (ha z E cx) (by decide) (by decide) he rfl
 refine jg (M9 (X:=X.wsh z) (zs3 hc) hg hm hb (Jf inner MK he2) (by decide) (by decide) he2 rfl) fun σ H Q hq1=> ?_
 obtain⟨F,Γ,P,R,h,k⟩:=hq1;refine⟨F,Γ,_,R,h,fun ds Γ1 F1 H1 vs R1 s1 r1 h1=> ?_⟩;unfold J7 at h1;split at h1
 ·unfold ak ak Rep at r1;obtain⟨v,_,rfl,⟨l,us,rfl,hq,rs⟩,rfl⟩:=r1;obtain⟨ns,hns,hlt,hme,h1⟩:=h1;obtain rfl:=Zk rs hns;refine⟨l,ns,rfl,R1.g.seq hq,by unfold scanBound;omega,fun q hq0=> ?_⟩
  refine⟨q,ns,rfl,jL,hme,fun l2 ms hl2 hp hs=> ?_⟩;have R2:SR X.K F0 H0 F1 (upd H1 q (sV X.prog X.w q ns)) σ Γ1:=R1.grow ⟨.refl _,fun b u e=>by rw[cQ (jV (R1.g b u e) hq0)];exact R1.g b u e,fun b u e=>by rw[cQ (jV e hq0)];exact e,fun b o e n=>by rw[e] at n;cases n⟩
  obtain⟨R3,q1,q2,q3,ap⟩:=yd R2 hl2 (RK (K:=X.K) (F:=F1) ms);exact k _ Γ1 F1 _ l2 _ R3 s1 q1 q2 q3 (RK ms) ap (h1 ms hs fun i=>hp.mem_iff.trans oh)
 ·exact h1.elim
end
open PySem.AutoSeq1 (wpAny_loadPart')
open PySem.MeetsSeq PySem.MeetsSeq3 in
theorem zyh(l b:Addr)(items items2:Array Value)(n n2:Nat)(dd dd2:Option Addr)(sl sl2:Array (Option Value))(x y:Str)(t u:Tok)(h1:items[0]?=some (.str x t))(h2:items2[0]?=some (.str y u))(hxy:x≠y):
  Meets (Builtin.«list.__eq__.loop» ⟨[.ref l,.ref b,rawInt 0,rawInt 0],[]⟩)
   (fun A R s=>s.heap.get? l=some {cls:= .type "list",dict:=dd,data:= .seq items n,slots:=sl}/\s.heap.get? b=some {cls:= .type "list",dict:=dd2,data:= .seq items2 n2,slots:=sl2}/\
    R (.ok (.ret (.bool (iI x y)))) s):=by
 intro prog w A R s h;obtain⟨hp,g,d,tk,os⟩:=s;obtain⟨hl,hb,h⟩:=h
 wp_walk using wpAny_loadPart' hl,wpAny_loadPart' hb
 have hi1:items[(0:Int).toNat]?=some (.str x t):=h1;have hi2:items2[(0:Int).toNat]?=some (.str y u):=h2;rw[hi1,hi2];have hne:(x.cps.toList==y.cps.toList)=false:=by
  cases q:(x.cps.toList==y.cps.toList) with
  | false=>rfl
  | true=>
   have e:=eq_of_beq q;exact absurd (by cases x;cases y;simp at e;rw[e]) hxy
 refine z6 (SeqRoads2.EqGives.str x y t u prog w _ _ _ _ ?_);rw[hne]
 wp_walk using wpAny_loadPart' hl,wpAny_loadPart' hb
 rw[hi1,hi2];refine z6 (m:=richCompare .Lt _ _) (wpAny_richCompare_same (typeIs_str _ x t) (typeIs_str _ y u) slot_str_lt (call_str_lt ⟨by simp,?_⟩) rfl)
 wp_walk
 exact h
open PySem.MeetsSeq PySem.MeetsSeq3 in
theorem zxu(l b:Addr)(items items2:Array Value)(n n2:Nat)(dd dd2:Option Addr)(sl sl2:Array (Option Value))(x y:Str)(t u:Tok)(h1:items[0]?=some (.str x t))(h2:items2[0]?=some (.str y u))(hxy:x≠y):
  Meets (Builtin.«list.__lt__» ⟨[.ref l,.ref b],[]⟩)
   (fun A R s=>s.heap.get? l=some {cls:= .type "list",dict:=dd,data:= .seq items n,slots:=sl}/\s.heap.get? b=some {cls:= .type "list",dict:=dd2,data:= .seq items2 n2,slots:=sl2}/\
    R (.ok (.ret (.bool (iI x y)))) s):=by
 intro prog w A R s h;obtain⟨hp,g,d,tk,os⟩:=s;obtain⟨hl,hb,h⟩:=h;have f3:=AutoSeq1.sub_list_list
 wp_walk using wpAny_loadPart' hl,wpAny_loadPart' hb
 exact⟨plainId_quiet plain_eq_loop _,codeAny_builtin entry_eq_loop (by
  rw[Around.under_plainId plain_eq_loop _];exact zyh l b items items2 n n2 dd dd2 sl sl2 x y t u h1 h2 hxy prog w A R _ ⟨hl,hb,h⟩)⟩
def uE(h:Heap)(v:Value)(x:Str):Prop:=∃a its t,v= .ref a/\PlainL h a its/\its[0]?=some (.str x t)
theorem zwc(h1:uE s.heap v x)(h2:uE s.heap v' y)(hxy:x≠y)(hu:A.units<cLine)(h:Q (iI x y) s):wpAny (model prog w) A (oneLt' true v v') Q E s:=by
 obtain⟨a,its,t,rfl,⟨o,n,e1,c1,d1,s1⟩,z1⟩:=h1;obtain⟨b,its2,u,rfl,⟨o2,n2,e2,c2,d2,s2⟩,z2⟩:=h2;obtain⟨cls,dict,data,slots⟩:=o;obtain⟨cls2,Zm,data2,yP⟩:=o2;cases c1;cases d1;cases s1;cases c2;cases d2;cases s2;rw[oneLt'_eq];simp only [if_true];refine z6 (wpAny_cRoomFor_or (.inr hu) ?_);refine z6 (wpAny_callSpecialIfBound?_slot (T:= "list") ⟨_,e1,rfl⟩ F.slot_list_lt (call_meets F.slot_list_lt ⟨_,e1,rfl⟩ F.entry_list_lt (F.args_list_lt_2 _ _) (zxu a b its its2 n n2 none none slots yP x y t u z1 z2 hxy) ⟨e1,e2,?_⟩));exact wpAny_truthy_bool h
theorem uE.up(q:uE h v x)(k:∀b o,h.get? b=some o ->h'.get? b=some o):uE h' v x:=by
 obtain⟨a,its,t,e,p,z⟩:=q;exact⟨a,its,t,e,p.keeps k,z⟩
theorem uE.looks(q:uE h v x):W.Looks M h (typeOf v) (.type "list"):=by
 obtain⟨a,its,t,rfl,⟨o,n,e,c,_,_⟩,_⟩:=q;intro A Q E s k hQ;exact wpAny_typeOf_ref (k _ _ e) (by rw[c];exact hQ)
theorem z1y(hl:vs.length=xs.length)(nd:xs.Nodup)(hu:A.units<cLine):
  vp prog w A E vs (Bt xs) (fun h=>∀i,i<xs.length ->uE h (vs.getD i Value.none) (xs.getD i Str.empty)) oneType' :=by
 refine⟨fun s Q hT h2 hQ=>W.kas_kind (T:= .type "list") h2 (fun v hv=> ?_) (by decide) (by decide) hQ,fun s i j C hT hi hj hij hC=> ?_⟩
 ·obtain⟨k,hk,rfl⟩:=List.mem_iff_getElem.mp hv;have:=hT k (by omega)
  rw[qP hk] at this;exact this.looks
 ·unfold W.kas_ask;rw[keyLt'_oneType];refine zwc (hT i (by omega)) (hT j (by omega)) ?_ hu hC
  have key:=List.pairwise_iff_getElem.mp nd;rw[qP (by omega),qP (by omega)]
  rcases Nat.lt_or_gt_of_ne hij with q | q
  ·exact key i j (by omega) (by omega) q
  ·exact fun z=>key j i (by omega) (by omega) q z.symm
def gl(g:List Str):D:= .lst (g.map .str)
def hdS(g:List Str):Str:=g.headD Str.empty
theorem z51(I:Inv X pins σ H s)(sF:Same F H)(r:Rep X.K F (gl g) v)(ru:RelV v u)(hg:g≠ []):uE s.heap u (hdS g):=by
 unfold gl Rep at r;obtain⟨a,vs,rfl,hq,rs⟩:=r;cases ru;obtain⟨its,rv,pl,hz⟩:=I.list (sF.seq hq);cases g with
 | nil=>exact absurd rfl hg
 | cons x g=>
  unfold List.map ak Rep at rs;obtain⟨w,us,rfl,rfl,rs⟩:=rs;cases rv with
  | cons r0 rr=>
   obtain⟨t,rfl⟩:=r0;exact⟨a,_,t,rfl,pl,by simp [hdS]⟩
def RL:List D ->(List D ->Prop) ->Prop:=fun ds P=>match ds with
 | [.lst xs]=>∃gs:List (List Str),xs=gs.map gl/\ (∀g∈gs,g≠ [])/\ (gs.map hdS).Nodup/\gs.length<64/\
   ∀ms:List (List Str),ms.Perm gs ->ms.Pairwise (fun a b=>iI (hdS a) (hdS b)=true) ->P (ms.map gl)
 | _=>False
theorem z4h(hu:X.A.units+21<cLine):cg X (.builtin "sorted") (qM X.K RL):=by
 rintro pins s σ H xs us Q I r ⟨F,ds,P,sF,rs,h,k⟩;unfold RL at h;split at h
 ·unfold ak ak Rep at rs;obtain⟨v,_,rfl,⟨p,vs,rfl,hq,rs⟩,rfl⟩:=rs;obtain⟨gs,rfl,hne,nd,h64,h⟩:=h;obtain⟨u,rfl,rx⟩:=vals1 r;cases rx;obtain⟨its,rv,pl,hz⟩:=I.list (sF.seq hq);have hl:=rv.length;have hl2:=fY rs;rw[List.length_map] at hl2;have line:(64:Nat)<=sizeLine:=by decide
  have hT:∀i,i< (gs.map hdS).length ->uE s.heap (its.getD i Value.none) ((gs.map hdS).getD i Str.empty):=fun i hi=>by
   rw[List.length_map] at hi;obtain⟨v,e1,r1⟩:=nP rs (i:=i) (d:=gl gs[i]) (by rw[List.getElem?_map,List.getElem?_eq_getElem hi];rfl)
   obtain⟨u,e2,r2⟩:=rv.get e1;rw[List.getD_eq_getElem?_getD,e2,qP (by rw[List.length_map];exact hi),List.getElem_map]
   exact z51 I sF r1 r2 (hne _ (yZ hi))
  have hup:∀x o,s.heap.get? x=some o ->((s.heap.push (seqObj "list" #[] 0)).update s.heap.objs.size (Obj.mapSeq (· ++its.toArray))).get? x=some o:=fun x o e=>by
   have hlt:=zJ e;exact Eq.trans (Heap.get?_update_ne _ _ _ _ (zL hlt)) (z8 _ e)
  refine Zb (collect_list (vs:=its) pl.isList ?_ (by omega))
  refine⟨Bt (gs.map hdS),_,_,by rw[show its.length=(gs.map hdS).length by rw[List.length_map];omega];exact Ze nd,by omega,z1y (by rw[List.length_map];omega) nd (by show X.A.units+1+1<cLine;omega),fun h2 k2 i hi=>(hT i hi).up fun b o e=>k2 b o (hup b o e),fun l h' is e hle a1 a2 hl' sW=> ?_⟩
  have hsz:s.heap.objs.size<=l:=zP (Nat.le_succ _) (zP (Nat.le_of_eq (((Heap.size_update ..).trans (size_push' ..)).symm)) hle);have hix:∀i∈is,i<its.length:=fun i hi=>List.mem_range.mp (a1.mem_iff.mp hi);have hrv:=Zj rv (is:=is) fun i hi=>by have:=hix i hi;omega
  have hrs:ak X.K F (pick .non (gs.map gl) is) (pick .non vs is):=Yn rs fun i hi=>by rw[List.length_map];have:=hix i hi;omega
  rw[RJ (d:= []) (fun i hi=>by have:=hix i hi;omega)] at hrs
  have hpm:(pick [] gs is).Perm gs:=Zf (by rw[show gs.length=its.length by omega];exact a1)
  have hlen:(pick V.non vs is).length<=sizeLine:=by
   unfold pick;rw[List.length_map,a1.length_eq,List.length_range];omega
  have I2:Inv X pins σ (upd H l (.lst (pick .non vs is))) {s with heap:=h',toks:=s.toks}:=
   I.laid (t' :=s.toks) (fun b ob eb=>sW b ob (hup b ob eb)) hsz (show bw X.prog X.w _ _ _ (.lst (pick .non vs is)) from ⟨hlen,_,e,hrv,hl'⟩)
  refine⟨.ref l,_,I2,rfl,k _ _ l hrs (I.hok.fresh hsz) (h _ hpm ?_)⟩;have hp:=Zg a2;rw[RJ (d:= []) (fun i hi=>by have:=hix i hi;omega)] at hp
  exact List.pairwise_map.mp hp
 ·exact h.elim
end L3
namespace L3
open PySem PySem.Spec PyProof.Rows L2
open PySem.AutoSeq1 (wpAny_loadPart')
theorem zio(l:Addr)(items:Array Value)(n:Nat)(b:Addr)(items2:Array Value)(n2:Nat)(sl:Array (Option Value))(hc0:¬(!items.isEmpty&&Builtin.List.listTooLong (items.size+items2.size))=true)(hc1:items.size<=sizeLine)(hs2:items.size+items2.size<=sizeLine+1):
  Meets (Builtin.«list.extend» ⟨[.ref l,.ref b],[]⟩) (fun _ R s=>s.heap.get? l=some {cls:= .type "list",dict:=none,data:= .seq items n,slots:= #[]}/\s.heap.get? b=some {cls:= .type "list",dict:=none,data:= .seq items2 n2,slots:=sl}/\R (.ok (.ret Value.none)) {s with heap:=s.heap.update l (Obj.mapSeq fun x=>x++items2),toks:=s.toks}):=
 .of_wp fun prog w A R s h=>by
  obtain⟨hp,g,d,tk,os⟩:=s;obtain⟨hl,hb,h⟩:=h;have f1:=AutoSeq1.idx_int;have f2:=AutoSeq1.sub_tuple_tuple;have f3:=AutoSeq1.sub_list_list;have f4:=AutoSeq1.sub_tuple_list;have f5:=AutoSeq1.sub_list_tuple;have hz' :(items++items2).size<=sizeLine+1:=by rw[Array.size_append];exact hs2
  wp_walk using (wpAny_updateSeq hl rfl (hz:=hc1) (_hz' :=hz')),wpAny_loadPart' hl,wpAny_loadPart' hb;exact⟨_,rfl,h⟩
theorem zvj:Qw X "list.extend" Qy:=by
 intro pins s σ F H l vs args xs ds us P Q I hl sF rs ra rv h k;unfold Qy at h;split at h
 ·unfold ak ak Rep at ra;obtain⟨v,_,rfl,⟨b,zs,rfl,hq,rz⟩,rfl⟩:=ra;obtain⟨u,rfl,ru⟩:=vals1 rv;cases ru;obtain⟨z,its,n,r,hle,e⟩:=I.lstM hl;obtain⟨its2,r2,⟨o,n2,e2,c2,d2,s2⟩,hz2⟩:=I.list (sF.seq hq);obtain⟨cls,dict,data,slots⟩:=o;cases c2;cases d2;cases s2;have aa1:=r2.length;have l1:=fY rs;have l2:=fY rz;have hsz:its.toArray.size+its2.toArray.size<=sizeLine:=by rw[List.size_toArray,List.size_toArray];omega
  have Gj:¬(!its.toArray.isEmpty&&Builtin.List.listTooLong (its.toArray.size+its2.toArray.size))=true:=by
   rw[zwn hsz,Bool.and_false];exact zK
  refine call_meets PySem.F.slot_list_extend ⟨_,e,rfl⟩ PySem.F.entry_list_extend (PySem.F.args_list_extend_2 _ _)
   (zio l its.toArray n b its2.toArray n2 slots Gj (by rw[List.size_toArray];omega) (by omega)) ⟨e,e2,?_⟩
  refine⟨.non,_,I.lset (its' :=its++its2) hl e (by simp) (r.append r2) ?_,rfl,k _ _ (xV rs rz) h.2⟩
  rw[List.length_append];omega
 ·exact h.elim
def RM:List D ->(List D ->Prop) ->Prop:=fun ds P=>match ds with | [.dic ks _]=>P (ks.map bO) | _=>False
theorem RN:∀{xs:List V} {us:List Value},xs.length=us.length ->(∀(i:Nat) (x:V) (u:Value),xs[i]?=some x ->us[i]?=some u ->RelV x u) ->Vals xs us
 | [],[],_,_=> .nil
 | [],_::_,h,_=>by cases h
 | _::_,[],h,_=>by cases h
 | x::xs,u::us,h,k=> .cons (k 0 x u rfl rfl) (RN (by simpa using h) fun i y w e1 e2=>k (i+1) y w (by simpa using e1) (by simpa using e2))
theorem Bu:∀{kvs:List (κ×V)} {ws:List (κ×Value)} {i:Nat} {p:κ×Value},KV kvs ws ->ws[i]?=some p ->∃v,kvs[i]?=some (p.1,v)/\RelV v p.2
 | _,_,_,_,.nil,e=>by simp at e
 | _,_,0,p,.cons (a:=q) h _,e=>by
  simp at e;subst e;obtain⟨h1,h2⟩:=h;exact⟨q.2,by rw[<- h1];rfl,h2⟩
 | _,_,i+1,p,.cons _ r,e=>by
  obtain⟨v,e1,e2⟩:=Bu (i:=i) r (by simpa using e)
  exact⟨v,by simpa using e1,e2⟩
theorem Gk:∀{ks:List κ} {vs:List V} {i:Nat} {k:κ} {v:V},(ks.zip vs)[i]?=some (k,v) ->ks[i]?=some k/\vs[i]?=some v:=fun{ks vs i k v} e=>by
 rw[List.getElem?_zip_eq_some] at e;exact e
theorem z1w(hc:X.calm=true):cg X (.type "list") (qM X.K RM):=by
 rintro pins s σ H xs us Q I r ⟨F,ds,P,sF,rs,h,k⟩;unfold RM at h;split at h
 ·rename_i ks ds';unfold ak ak Rep at rs;obtain⟨v,_,rfl,⟨a,vs,rfl,hq,hkl,rs⟩,rfl⟩:=rs;obtain⟨u,rfl,rx⟩:=vals1 r;cases rx;obtain⟨hz,hsm,ws,kv,hd⟩:=Ji I.hok (sF _ _ hq);obtain⟨ob,es,ep,hd⟩:=id hd;have hm:s.heap.DictAt (iB X.prog X.w) a ws ep:=⟨ob,es,hd⟩;have Gn:(ks.zip vs).length=ws.length:=kv.length;have hlk:ks.length=ws.length:=by rw[<- Gn,List.length_zip,<- hkl,Nat.min_self]
  rw[Gn] at hz;refine W.kdl_call (W.kdl_dict (knd:=iB X.prog X.w) (kvs:=ws) (ep:=ep) hsm) (I.ok.hd hc) hm hz fun h' tk acc c hold hg hac=> ?_;have hv:Vals (ks.map kV) acc.toList:=by
   refine RN (by rw[List.length_map,Array.length_toList];exact hlk.trans hac.1.symm) fun i x u e1 e2=> ?_
   obtain⟨k,w,e3,e4⟩:=hac.2 i u (by rw[<- Array.getElem?_toList];exact e2)
   obtain⟨v5,e5,_⟩:=Bu kv e3;have e5:=(Gk e5).1;rw[List.getElem?_map,e5] at e1;cases e1;rcases qu e4 with ⟨j,t,rfl,rfl⟩ | ⟨x,t,rfl,rfl⟩
   ·exact⟨t,rfl⟩
   ·exact⟨t,rfl⟩
  have I2:Inv X pins σ (upd H s.heap.objs.size (.lst (ks.map kV))) {s with heap:=h',toks:=tk}:=
   I.laid (t' :=tk) hold (zO _) (show bw X.prog X.w _ _ _ (.lst (ks.map kV)) from ⟨by rw[List.length_map];omega,_,c,hv,by rw[Array.toArray_toList];exact hg⟩)
  exact⟨.ref s.heap.objs.size,_,I2,rfl,k _ _ _ (Jm ks) (I.hok.fresh (zO _)) h⟩
 ·exact h.elim
end L3
namespace L3
open PySem PySem.Spec PyProof.Rows L2
theorem Zn(I:Inv X pins σ H s)(e:H a=some (.dK kvs))(ho:s.heap.get? a=some o):Inv X pins σ (upd H a (.frz o (.dK kvs))) s:=by
 have ne:∀b u,H b=some u ->(∀kvs,u≠ .dK kvs) ->b≠a:=fun b u q n z=>by rw[z,e] at q;cases q;exact n _ rfl
 refine I.un (h' :=s.heap) (t' :=s.toks) ⟨fun _ _ q _ _ _=>q,fun _ ob q _ _ _=>⟨ob.slots,q⟩,fun b ob q n _=> ?_,fun b ob q _=>⟨ob,q⟩,fun b xs q=> ?_,fun b ob u q=> ?_,fun b ps q=>⟨#[],?_⟩⟩ fun b u q=> ?_
 ·rw[cQ (fun z=>by rw[z,e] at n;cases n)];exact n
 ·rw[cQ (ne b _ q fun _ z=>by cases z)];exact q
 ·rw[cQ (ne b _ q fun _ z=>by cases z)];exact q
 ·rw[cQ (ne b _ q fun _ z=>by cases z)];simpa using q
 ·by_cases hb:b=a
  ·subst hb;rw[jL] at q;cases q;refine⟨ho,?_⟩;exact(show bw X.prog X.w H s.heap b (.dK kvs) from I.hok b _ e)
  ·rw[cQ hb] at q;exact(I.hok b u q).stay (fun _ _ _ z=>z) (fun c z=>by rw[cQ (ne c _ z fun _ w=>by cases w)];exact z) fun c xs z=>by rw[cQ (ne c _ z fun _ w=>by cases w)];exact z
def RP(a:Addr)(o:Obj)(kvs:List (Key×V)):It:=⟨fun i H=>H a=some (.frz o (.dK kvs))/\i<kvs.length,fun i H x H' =>H' =H/\∃k,kvs[i]?=some (k,x),fun i H=>H a=some (.frz o (.dK kvs))/\kvs.length<=i⟩
theorem J8(I:Inv X pins σ H s)(e:H a=some (.frz o (.dK kvs)))(yQ:∃es,o.data= .dict es ep):∃ws,KV kvs ws/\s.heap.DictAt (iB X.prog X.w) a ws ep:=by
 obtain⟨ho,_,_,ws,kv,o',es,ep',h1,h2,h3,h4⟩:=(show bw X.prog X.w H s.heap a (.frz o (.dK kvs)) from I.hok a _ e);rw[ho] at h1;cases h1;obtain⟨es',h5⟩:=yQ;rw[h3] at h5;cases h5;exact⟨ws,kv,o,es,ho,h2,h3,h4⟩
theorem zuy{P:Program}{w:World}{K:W.Frag}{tg:Expr}(a it:Addr)(o:Obj)(kvs:List (Key×V))(ep:Nat)(yQ:∃es,o.data= .dict es ep):Turn P w K tg (RP a o kvs) [it] it (fun i h=>h.IsValIter it a i kvs.length ep) where
 mem:=by simp
 obj:=fun i h st b hb=>by
  obtain rfl:b=it:=by simpa using hb
  obtain⟨o,e,c,d⟩:=st;exact⟨o,e,fun v z=>by rw[d] at z;cases z⟩
 keep:=fun i h h' st k=>st.at fun o e=>k it (by simp) o e
 item:=by
  intro X hP hw hK hc i pins s σ H E I hf st hg;subst hP hw hK;obtain⟨hq,hx⟩:=hg;obtain⟨f0,f1,f2,f3,f4,f5⟩:=hf it (by simp)
  obtain⟨ws,kv,hd⟩:=J8 I hq yQ;have hl:=kv.length;rw[hl] at st hx;obtain⟨⟨k,u⟩,hw⟩:∃p,ws[i]?=some p:=⟨ws[i],by simp [hx]⟩
  obtain⟨v,hv,rv⟩:=Bu kv hw;refine wpAny_pyNext_values_item st hd hw fun h' hit' sb=> ?_;have I1:Inv X pins σ H {s with heap:=h'}:=I.turned (t' :=s.toks) (fun b o hb e=>(sb.2 b hb).trans e) f0 f1 f3 f4 f5;obtain⟨o',e,c,d⟩:=id hit';exact⟨u,rfl,Dd (s:={s with heap:=h'}) e c d (by decide) ⟨v,H,I1,rv,⟨rfl,k,hv⟩,by rw[hl];exact hit',fun b hb=>(hf b hb).1⟩⟩
 done:=by
  intro X hP hw hK hc i pins s σ H E I hf st hg;subst hP hw hK;obtain⟨hq,hx⟩:=hg;obtain⟨f0,f1,f2,f3,f4,f5⟩:=hf it (by simp)
  obtain⟨ws,kv,hd⟩:=J8 I hq yQ;have hl:=kv.length;rw[hl] at st hx;exact wpAny_pyNext_values_end (I.ok.hd hc) st hd (List.getElem?_eq_none hx) fun h' eb=>⟨rfl,I.turned (t' :=s.toks) (fun b o hb e=>eb b o hb e) f0 f1 f3 f4 f5⟩
 self:=fun _ _ _ _ _ st h=>wpAny_pyIter_valiter st h
def Gp(te:TE):TI:=fun σ H R=>te σ H fun v H1=>∃a kvs,v= .ref a/\H1 a=some (.dK kvs)/\ (kvs.length<=sizeLine ->∀o,R (RP a o kvs) (upd H1 a (.frz o (.dK kvs))))
theorem ztf(he:PE X e te)(hbase:attributeBase e "values" X.env (eval e X.env)=eval e X.env:=by rfl)(hline:(apos.endLine==cpos.line)=true:=by rfl):
  PI X tg (.Call (.Attribute e "values" apos) [] [] cpos) (Gp te):=by
 intro pins s σ H R I h;refine wpAny_Call_method0_late hbase hline (bD (he pins s σ H _ I h) fun v s1 hq1=> ?_);obtain⟨x,H1,I1,r1,a,kvs,ex,ea,q⟩:=hq1;subst ex;obtain rfl:v=Value.ref a:=r1;obtain⟨hT,hN,hsm⟩:=Jk I1 (.inl ⟨kvs,.inl ea⟩);refine⟨"dict","dict.values",PySem.F.plainAttrs_dict,PySem.F.slot_dict_values,PySem.F.type_dict_values,hT,hN,Calls.callWith_builtin rfl (PySem.evalArgs_none ?_)⟩;obtain⟨hz,_,ws,kv,dd⟩:=Ji I1.hok ea;refine call_meetsIn PySem.F.slot_dict_values hT PySem.F.entry_dict_values (PySem.F.args_dict_values_1 _) (meets_dict_values (iB X.prog X.w) a hsm) ⟨⟨ws,dd⟩,?_⟩;obtain⟨o,es,ep,h1,h2,h3,h4⟩:=id dd;have hm:s1.heap.DictAt (iB X.prog X.w) a ws ep:=⟨o,es,h1,h2,h3,h4⟩;have I2:=Zn I1 ea h1;have vw:(s1.heap.push {cls:= .type "dict_values",data:= .fields #[.ref a]}).IsValuesView s1.heap.objs.size a:=⟨_,z9 _ rfl,rfl,rfl⟩;have I3:Inv X pins σ (upd H1 a (.frz o (.dK kvs))) {s1 with heap:=s1.heap.push {cls:= .type "dict_values",data:= .fields #[.ref a]},toks:=s1.toks}:=I2.kept fun b o e=>z8 _ e;refine wpAny_pyIter_values vw (hm.push _) ?_;refine⟨_,[(s1.heap.push {cls:= .type "dict_values",data:= .fields #[.ref a]}).objs.size],_,_,_,rfl,I3.kept (t' :=s1.toks) fun b o e=>z8 _ e,zuy a _ o kvs ep ⟨es,h3⟩,?_,fun b hb=> ?_,q hz o⟩
 ·rw[kv.length];exact⟨_,z9 _ rfl,rfl,rfl⟩
 ·obtain rfl:b=(s1.heap.push {cls:= .type "dict_values",data:= .fields #[.ref a]}).objs.size:=by simpa using hb
  exact I3.fpOk (zO _) (I3.hok.fresh (zO _))
section
variable{K:W.Frag}{F0 H0 F H:Hp}{σ:St}{Γ:List Slot}
theorem SR.chg(R:SR K F0 H0 F H σ Γ)(h2:F a=none)(h3:H0 a=none)(ap:Apart σ Γ a):SR K F0 H0 F (L2.upd H a u) σ Γ:=by
 refine⟨⟨R.gr.f,fun b u q=> ?_,fun b u q=> ?_,fun b o q n=>R.gr.n b o q n⟩,R.len,fun j s' q=> ?_,R.ap⟩
 ·rw[cQ (jV q h2)];exact R.g b u q
 ·rw[cQ (jV q h3)];exact R.gr.h b u q
 ·obtain⟨o,p1,p2⟩:=R.sl j s' q;refine⟨o,p1,DR p2 (.refl _) fun b hb=>⟨(ug p2 hb).1,fun u q' => ?_⟩⟩;have:b≠a:=fun z=>by subst z;exact ap j ⟨s',o,q,p1,hb⟩
  rw[cQ this];exact q'
end
theorem zxq{K:W.Frag}{F:Hp}{a:Addr}{o:Obj}{ks:List Key}{vs:List V}{xs:List D}(e:F a=some (.frz o (.dK (ks.zip vs))))(hkl:ks.length=vs.length)(rs:ak K F xs vs)(hz:(ks.zip vs).length<=sizeLine):v7 K F yu (RP a o (ks.zip vs)) xs:=by
 have hl:=fY rs;have hlz:(ks.zip vs).length=vs.length:=by rw[List.length_zip,hkl,Nat.min_self]
 refine⟨by omega,fun i H2 F2 s2 s3 _=>⟨fun q=>⟨s3 _ _ (s2 _ _ e),by omega⟩,fun d hd=> ?_⟩⟩
 obtain⟨v,hv,rv⟩:=nP rs hd;have hi:i<vs.length:=(zW.mp hv).1;refine⟨⟨s3 _ _ (s2 _ _ e),by omega⟩,fun y H' z=> ?_⟩
 obtain⟨rfl,k,z⟩:=z;have:=(Gk z).2;rw[hv] at this;cases this;exact⟨F2,Gr.refl s3,rv.up s2⟩
def Zo(tn:jj):aZ:=fun Γ P E=>tn Γ (fun t Γ1=>match t with | .dic _ ts=>P (eO ts) Γ1 | _=>False) E
section
variable{X:Cx}{F0 H0:Hp}{e tg:Expr}{apos cpos:Pos}{tn:jj}
open Classical in
theorem zud(he:QN X F0 H0 e tn)(hbase:attributeBase e "values" X.env (eval e X.env)=eval e X.env:=by rfl)(hline:(apos.endLine==cpos.line)=true:=by rfl):
  QI X F0 H0 tg (.Call (.Attribute e "values" apos) [] [] cpos) (Zo tn):=fun z E cx=>Az (ztf (X:=X.wsh z) (he z E cx) hbase hline) fun σ H R hq2=>by obtain⟨F,Γ,P,S,q,k⟩:=hq2;exact⟨F,Γ,_,S,q,fun t Γ1 F1 H1 v as R1 s1 nd hn r h1=>by
  split at h1
  ·rename_i ks ts;unfold TR at r;obtain⟨a,vs,bs,rfl,rfl,ea,hkl,r⟩:=r;refine⟨a,_,rfl,ea,fun hz o=> ?_⟩;have nab:a∉bs:=(List.nodup_cons.mp nd).1;have sF:Same F1 (fun b=>if b=a then some (.frz o (.dK (ks.zip vs))) else if b∈bs then H1 b else F1 b):=fun b u e=>by
    show(if b=a then some (.frz o (.dK (ks.zip vs))) else if b∈bs then H1 b else F1 b)=some u;rw[if_neg (fun z=>by rw[z,(hn a List.mem_cons_self).1] at e;cases e),if_neg (fun hb=>by rw[(hn b (List.mem_cons_of_mem _ hb)).1] at e;cases e)]
    exact e
   have R2:=(R1.chg (u:= .frz o (.dK (ks.zip vs))) (hn a zY).1 (hn a zY).2.1 (hn a zY).2.2).frzM sF (fun b u e=> ?_) (fun b u e n=> ?_)
   ·refine k _ Γ1 _ _ _ R2 (s1.trans sF) (zxq ?_ hkl (cJ.rep sF ts vs bs (fun c hc u hu=> ?_) r) hz) h1
    ·show(if a=a then some (HO.frz o (.dK (ks.zip vs))) else if a∈bs then H1 a else F1 a)=some (HO.frz o (.dK (ks.zip vs)));rw[if_pos rfl]
    ·show(if c=a then some (.frz o (.dK (ks.zip vs))) else if c∈bs then H1 c else F1 c)=some u;rw[if_neg (show¬c=a from fun z=>nab (z ▸ hc)),if_pos hc];exact hu
   ·have e' :(if b=a then some (.frz o (.dK (ks.zip vs))) else if b∈bs then H1 b else F1 b)=some u:=e;by_cases hb:b=a
    ·subst hb;rw[if_pos rfl] at e';rw[jL];exact e'
    ·rw[if_neg hb] at e';rw[cQ hb];split at e'
     ·exact e'
     ·exact R1.g b u e'
   ·have e' :(if b=a then some (.frz o (.dK (ks.zip vs))) else if b∈bs then H1 b else F1 b)=some u:=e;by_cases hb:b=a
    ·subst hb;exact(hn b zY).2
    ·rw[if_neg hb] at e';split at e'
     ·rename_i hm;exact(hn b (zX _ hm)).2
     ·rw[n] at e';cases e'
  ·exact h1.elim⟩
end
theorem uF{K:W.Frag}{F:Hp}{k:Key}{v:V}(h:Rep K F (bO k) v):v=kV k:=by
 cases k with
 | inl i=>unfold bO Rep at h;exact h
 | inr x=>unfold bO Rep at h;exact h
theorem Zq(h:ks.length=vs.length)(k:Key):(bY (ks.zip vs) k).isSome=iV ks k:=by
 unfold bY iV;rw[Option.isSome_map];induction ks generalizing vs with
 | nil=>rfl
 | cons k' ks ih=>
  cases vs with
  | nil=>cases h
  | cons v vs=>
   rw[List.zip_cons_cons,List.find?_cons,List.any_cons];by_cases q:k' =k
   ·simp [q]
   ·simp only [q,decide_false,Bool.false_or];exact ih (by simpa using h)
theorem z3b{ks:List Key}{vs:List V}{k:Key}{v:V}{q:Nat}(nd:ks.Nodup)(h1:ks[q]?=some k)(h2:vs[q]?=some v):bY (ks.zip vs) k=some v:=by
 unfold bY;induction ks generalizing vs q with
 | nil=>simp at h1
 | cons k' ks ih=>
  cases vs with
  | nil=>simp at h2
  | cons u vs=>
   rw[List.zip_cons_cons,List.find?_cons];cases q with
   | zero=>
    have e1:k' =k:=by simpa using h1
    have e2:u=v:=by simpa using h2
    simp [e1,e2]
   | succ q=>
    have hm:k∈ks:=zA (by simpa using h1)
    have ne:k' ≠k:=fun z=>(List.nodup_cons.mp nd).1 (z ▸ hm);simp only [ne,decide_false];exact ih (List.nodup_cons.mp nd).2 (by simpa using h1) (by simpa using h2)
def Gq(i:Nat)(tk:aG):TT2:=fun Γ P E=>tk Γ (fun kd Γ1=>∃k as ks ts,kd=bO k/\Γ1[i]?=some (.tr as (.dic ks ts))/\P (!iV ks k) Γ1) E
def Gs(i j:Nat)(tn:jj):au:=fun D Γ E=>tn Γ (fun t Γ1=>∃k as ks ts,Γ1[j]?=some (.pu (bO k))/\Γ1[i]?=some (.tr as (.dic ks ts))/\iV ks k=false/\ks.length<sizeLine/\∀cs,D.nx (Γ1.set i (.tr (as++cs) (.dic (ks++ [k]) (ts++ [t]))))) E
def Gu(i j l:Nat)(tv:aG):au:=fun D Γ E=>tv Γ (fun d Γ1=>∃k k2 as ks ts q yR xs,Γ1[j]?=some (.pu (bO k))/\Γ1[l]?=some (.pu (bO k2))/\Γ1[i]?=some (.tr as (.dic ks ts))/\ks.Nodup/\ks[q]?=some k/\
 ts[q]?=some (.dic yR (xs.map .leaf))/\yR.length<sizeLine/\D.nx (Γ1.set i (.tr as (.dic ks (ts.set q (.dic (dH yR k2) ((bQ yR xs k2 d).map .leaf))))))) E
section
variable{X:Cx}{F0 H0:Hp}{ke value:Expr}{pos npos ou wz pos' pos2:Pos}{x y w:Str}{i j l:Nat}{tk tv:aG}{tn:jj}
theorem z3m(hu:X.A.units+1<cLine)(hk:QE X F0 H0 ke tk)(hN:X.N[i]?=some x)(hv:mU X.env.scope x)(hd:(x==("__debug__" :Str))=false:=by decide)(hcd:(x==("__classdict__" :Str))=false:=by decide)
  (hb:behindInMarks .NotIn (.Name x npos)=false:=by with_unfolding_all rfl):
  QT X F0 H0 (.Compare ke [.NotIn] [.Name x npos] pos) (Gq i tk):=fun z E cx=>
 Ao (Lr (X:=X.wsh z) (zua (X:=X.wsh z) hu (hk z E cx) (o7 (X:=X.wsh z) (i:=i) hN hv hd hcd)) hb) fun σ H Q hq1=>by obtain⟨F,Γ,P,R,h,k⟩:=hq1;exact⟨F,Γ,_,R,h,fun kd Γ1 F1 H1 v R1 s1 rk hq2=>by
  obtain⟨kk,as,ks,ts,e1,e2,h1⟩:=hq2;subst e1;have ev:=uF rk;subst ev;obtain⟨o,e3,w,rfl,nd,hn,r⟩:=R1.sl i _ e2;unfold TR at r;obtain⟨a,vs,bs,rfl,rfl,ea,hkl,r⟩:=r;refine⟨.ref a,e3,a,_,rfl,gQ.k (k:=kk) ea,_,rfl,?_⟩;rw[Zq hkl];exact k _ _ _ _ R1 s1 h1⟩
theorem z23(hu:X.A.units+1<cLine)(hN:X.N[i]?=some x)(hv:mU X.env.scope x)(yS:X.N[j]?=some y)(hv2:mU X.env.scope y)(hval:QN X F0 H0 value tn)(hs:swapsWith value (some (.Subscript (.Name x npos) (.Name y ou) pos')) pos.line X.env=pure false:=by rfl)
  (hd:(x==("__debug__" :Str))=false:=by decide) (hcd:(x==("__classdict__" :Str))=false:=by decide) (hd2:(y==("__debug__" :Str))=false:=by decide) (pG:(y==("__classdict__" :Str))=false:=by decide):
  QS X F0 H0 (.Assign [.Subscript (.Name x npos) (.Name y ou) pos'] value pos) (Gs i j tn):=fun z E cx=>
 lY (Jj (X:=X.wsh z) hu (o7 (X:=X.wsh z) (i:=i) hN hv hd hcd) (o7 (X:=X.wsh z) (i:=j) yS hv2 hd2 pG) (hval z E cx) hs) fun Dn σ H qJ=>by obtain⟨F,Γ,D2,R,h,k⟩:=qJ;exact⟨F,Γ,_,R,h,fun t Γ1 F1 H1 v cs R1 s1 ndc hnc rt pB=>by
  obtain⟨kk,as,ks,ts,e1,e2,hh,hl,q⟩:=pB;obtain⟨o,e3,w,rfl,nd,hn,r⟩:=R1.sl i _ e2;obtain⟨o2,e4,w2,rfl,rk⟩:=R1.sl j _ e1;have ev:=uF rk;subst ev;unfold TR at r;obtain⟨a,vs,bs,rfl,rfl,ea,hkl,r⟩:=r;refine⟨.ref a,e3,kV kk,e4,a,_,rfl,jZ.k (k:=kk) ea (by rw[List.length_zip,<- hkl,Nat.min_self];exact hl),?_⟩
  have own:∀b∈a::bs,iT Γ1 σ i b:=fun b hb=>⟨_,_,e2,e3,hb⟩;have dis:∀b∈a::bs,b∉cs:=fun b hb hc=>(hnc b hc).2.2 i (own b hb);have nab:a∉bs:=(List.nodup_cons.mp nd).1;rw[Ry hkl];unfold dH bQ;rw[if_neg (by rw[hh];decide),if_neg (by rw[hh];decide)]
  refine k.nx _ _ _ _ (R1.wrT e2 e3 (show dY (Slot.tr (a::bs) (.dic ks ts)) (some (.ref a)) a from zY) (t:= .tr (a::bs++cs) (.dic (ks++ [kk]) (ts++ [t]))) ⟨_,rfl,?_,fun b hb=> ?_,?_⟩ fun b hb=> ?_) s1 (q cs)
  ·exact List.nodup_append.mpr ⟨nd,ndc,fun x hx y hy e=>dis x hx (e ▸ hy)⟩
  ·rcases zU.mp hb with hb | hb
   ·exact hn b hb
   ·exact⟨(hnc b hb).1,(hnc b hb).2.1⟩
  ·unfold TR;refine⟨a,vs++ [v],bs++cs,rfl,rfl,jL,by simp [hkl],?_⟩
   have m:=cJ.move (H' :=upd H1 a (.dK ((ks++ [kk]).zip (vs++ [v])))) (.refl _) ts vs bs (fun b hb u q=>by rw[cQ (show b≠a from fun z=>nab (z ▸ hb))];exact q) r
   have l:=TR.move (H' :=upd H1 a (.dK ((ks++ [kk]).zip (vs++ [v])))) (.refl _) t v cs (fun b hb u q=>by rw[cQ (show b≠a from fun z=>dis a List.mem_cons_self (z ▸ hb))];exact q) rt
   exact YK m (z0j l)
  ·rcases zU.mp hb with hb | hb
   ·exact .inl hb
   ·exact .inr (hnc b hb).2.2⟩
theorem z3g(hu:X.A.units+1<cLine)(hN:X.N[i]?=some x)(hv:mU X.env.scope x)(yS:X.N[j]?=some y)(hv2:mU X.env.scope y)(hN3:X.N[l]?=some w)(hv3:mU X.env.scope w)(hval:QE X F0 H0 value tv)
  (hs:swapsWith value (some (.Subscript (.Subscript (.Name x npos) (.Name y ou) pos2) (.Name w wz) pos')) pos.line X.env=pure false:=by rfl)
  (hd:(x==("__debug__" :Str))=false:=by decide) (hcd:(x==("__classdict__" :Str))=false:=by decide) (hd2:(y==("__debug__" :Str))=false:=by decide) (pG:(y==("__classdict__" :Str))=false:=by decide)
  (hd3:(w==("__debug__" :Str))=false:=by decide) (RQ:(w==("__classdict__" :Str))=false:=by decide) (hns:qF (.Name y ou):=by exact fun _ _=>rfl):
  QS X F0 H0 (.Assign [.Subscript (.Subscript (.Name x npos) (.Name y ou) pos2) (.Name w wz) pos'] value pos) (Gu i j l tv):=fun z E cx=>
 lY (Jj (X:=X.wsh z) hu (Wt (X:=X.wsh z) hu (o7 (X:=X.wsh z) (i:=i) hN hv hd hcd) (o7 (X:=X.wsh z) (i:=j) yS hv2 hd2 pG) hns) (o7 (X:=X.wsh z) (i:=l) hN3 hv3 hd3 RQ) (hval z E cx) hs) fun Dn σ H uh=>by obtain⟨F,Γ,D2,R,h,k⟩:=uh;exact⟨F,Γ,_,R,h,fun d Γ1 F1 H1 v R1 s1 rd xZ=>by
  obtain⟨kk,k2,as,ks,ts,q,yR,xs,e1,e1',e2,ndk,hq,ht,hl,hnx⟩:=xZ;obtain⟨o,e3,w,rfl,nd,hn,r⟩:=R1.sl i _ e2;obtain⟨o2,e4,w2,rfl,rk⟩:=R1.sl j _ e1;obtain⟨o3,e5,w3,rfl,rk2⟩:=R1.sl l _ e1';have ev:=uF rk;subst ev;have ev:=uF rk2;subst ev;unfold TR at r;obtain⟨a,vs,bs,rfl,rfl,ea,hkl,r⟩:=r;obtain⟨u,b1,bs',b2,hu',hbs,rc,back⟩:=YL r ht;subst hbs;unfold TR at rc;obtain⟨c,us,ds,rfl,rfl,ec,yU,rc⟩:=rc;obtain⟨rfl,rs⟩:=J4 rc;have nab:a∉b1++ ([c]++b2):=(List.nodup_cons.mp nd).1;have nd2:=(List.nodup_cons.mp nd).2;have hac:a≠c:=fun z=>nab (by simp [z])
  have hc1:∀b∈b1++b2,b≠c:=fun b hb z=>by
   subst z;have p:=List.nodup_append.mp nd2;rcases zU.mp hb with hb | hb
   ·exact p.2.2 b hb b (by simp) rfl
   ·have:=(List.nodup_cons.mp p.2.1).1;exact this hb
  have gd:gQ H1 a (kV kk) (some (.ref c)):=by
   have:=gQ.k (k:=kk) ea
   rwa [z3b ndk hq hu'] at this
  refine⟨.ref a,e3,kV kk,e4,a,.ref c,rfl,gd,kV k2,e5,c,_,rfl,jZ.k (k:=k2) ec (by rw[List.length_zip,<- yU,Nat.min_self];exact hl),?_⟩
  rw[Ry yU];refine k.nx _ _ _ _ (R1.wrT e2 e3 (show dY (Slot.tr (a::(b1++ ([c]++b2))) (.dic ks ts)) (some (.ref a)) c from by show c∈_;simp) (t:= .tr (a::(b1++ ([c]++b2))) (.dic ks (ts.set q (.dic (dH yR k2) ((bQ yR xs k2 d).map .leaf))))) ⟨_,rfl,nd,hn,?_⟩ fun b hb=> .inl hb) s1 hnx
  unfold TR;refine⟨a,vs,b1++ ([c]++b2),rfl,rfl,by rw[cQ hac];exact ea,hkl,?_⟩
  refine back (.refl _) (fun b hb u q=>by rw[cQ (hc1 b hb)];exact q) ?_
  unfold TR;exact⟨c,_,[],rfl,rfl,jL,Y0 yU,Gb (Y5 rs rd)⟩⟩
end
def Zr(i:Nat):au:=fun D Γ _=>∃as ts,Γ[i]?=some (.tr as (.lst ts))/\D.nx (Γ.set i .no)
section
variable{X:Cx}{F0 H0:Hp}{pos npos apos cpos:Pos}{x:Str}{i:Nat}
end
abbrev uG:=T ->List D ->(T ->D ->Prop) ->(T ->Value ->Prop) ->Prop
def qg(as:List Addr)(H:Hp):Hp:=fun b=>if b∈as then none else H b
def sX(K:W.Frag)(sp:uG):Sp:=fun vs H Q E=>∃F a bs t ds rest P Ex,vs=V.ref a::rest/\Same F H/\ (a::bs).Nodup/\ (∀b∈a::bs,F b=none)/\TR K F H t (.ref a) (a::bs)/\ak K F ds rest/\sp t ds P Ex/\
 (∀t' d v cs F' H',Gr F (qg (a::bs) H) F' H' ->(a::cs).Nodup ->(∀b∈a::cs,F' b=none/\qg (a::bs) H b=none) ->TR K F' H' t' (.ref a) (a::cs) ->Rep K F' d v ->P t' d ->Q v H')/\
 ∀C t' cs F' H',Gr F (qg (a::bs) H) F' H' ->(a::cs).Nodup ->(∀b∈a::cs,F' b=none/\qg (a::bs) H b=none) ->TR K F' H' t' (.ref a) (a::cs) ->Ex t' C ->E C none H'
def startM(n:Nat)(s:Slot)(ds:List D):G2:=s::(ds.map .pu++List.replicate (n - 1 - ds.length) .no)
section
variable{K:W.Frag}{F0 H0 F H F' H' :Hp}{σ:St}{Γ:List Slot}
end
structure aa2 (P:Program) (w:World) (K:W.Frag) (mg:Str ->Option Value) (base:Heap) (x:Str) (k:Nat) (ps:List Str) (sp:uG):Prop where
 ex:∃f fd,dX P w K mg base (gK P w) k f fd ps (sX K sp)/\mg x=some (.ref f)/\W.keepIn K (.ref f)=true/\Binds K fd ps []
structure aa3 (P:Program) (w:World) (K:W.Frag) (mg:Str ->Option Value) (base:Heap) (C:Addr) (m:Str) (k:Nat) (ps:List Str) (sp:uG):Prop where
 ex:∃f fd,dX P w K mg base (gK P w) k f fd ps (sX K sp)/\Meth K C m f/\Binds K fd ps []
abbrev aa4(a:Addr)(Q:T ->D ->Prop):jm:={nx:=fun Γ=>∃cs t',Γ[0]?=some (.tr (a::cs) t')/\Q t' .non,rt:=fun _=>False,rm:=fun d Γ=>∃cs t',Γ[0]?=some (.tr (a::cs) t')/\Q t' d}
abbrev aa5(a:Addr)(Ex:T ->Value ->Prop):XW:=fun Γ C=>∃cs t',Γ[0]?=some (.tr (a::cs) t')/\Ex t' C
section
variable{P:Program}{w:World}{K:W.Frag}{mg:Str ->Option Value}{base:Heap}
end
def Zt(te:aG):au:=fun D Γ E=>te Γ (fun d Γ1=>D.rm d Γ1) E
def RT(C:Addr)(m:Str)(i:Nat)(sp:uG)(t:aZ):aG:=fun Γ P E=>(∃as fs ts,Γ[i]?=some (.tr as (.ob C fs ts))/\m∉fs)/\t Γ (fun ds Γ1=>∃a bs tt,Γ1[i]?=some (.tr (a::bs) tt)/\sp tt ds (fun t' d=>∀cs,P d (Γ1.set i (.tr (a::cs) t'))) fun t' Cx=>∀cs,E (Γ1.set i (.tr (a::cs) t')) Cx) E
def RV(i:Nat)(sp:uG)(t:aZ):aG:=fun Γ P E=>(∃a bs tt,Γ[i]?=some (.tr (a::bs) tt))/\t Γ (fun ds Γ1=>∃a bs tt,Γ1[i]?=some (.tr (a::bs) tt)/\sp tt ds (fun t' d=>∀cs,P d (Γ1.set i (.tr (a::cs) t'))) fun t' Cx=>∀cs,E (Γ1.set i (.tr (a::cs) t')) Cx) E
section
variable{X:Cx}{F0 H0:Hp}{e:Expr}{es:List Expr}{pos p apos:Pos}{x m:Str}{C f:Addr}{fd:FuncData}{ps:List Str}{k i:Nat}{sp:uG}{te:aG}{t:aZ}
end
def aa6(h:Heap)(d:Addr)(es:Array DictEntry)(ep:Nat):Prop:=∃o,h.get? d=some o/\o.ExactDict/\o.data= .dict es ep
section
variable{prog:Program}{w:World}{A:Around}{E:bH}{s:Shared}{d it:Addr}{es:Array DictEntry}{ep i:Nat}
end
section
variable{κ:Type}[DecidableEq κ]
variable{prog:Program}{w:World}{knd:HeapKind prog w κ}{A:Around}{E:bH}{s:Shared}{d a:Addr}{xs:List (κ×Addr×Value)}{k:κ}{p:Addr×Value}
end
def kO(K:W.Frag)(H:Hp)(y:V)(k:List Key):Prop:=∃b,y= .ref b/\iQ K H b (k.map kV)
section
variable{X:Cx}{pins:bA}{σ:St}{H:Hp}{s:Shared}{a:Addr}{y v:V}{u r:Value}{A:Around}{E:bH}{kvs:List (List Key×V)}{k:List Key}
theorem Zu(I:Inv X pins σ H s)(h:kO X.K H y k)(ry:RelV y u):∃b,u= .ref b/\ (tupleKind (iB X.prog X.w)).is s.heap k b:=by
 obtain⟨b,rfl,hq⟩:=h;cases (show u=Value.ref b from ry);obtain⟨its,rv,⟨o,h1,h2,n,h3⟩,_⟩:=I.tuple hq;exact⟨b,rfl,o,its.toArray,n,h1,h2,h3,by simpa using Nz rv⟩
theorem z3w(hu:A.units+1<cLine)(I:Inv X pins σ H s)(e:Rd H a (.dT kvs))(hk:kO X.K H y k)(l:bY kvs k=some v)(ry:RelV y u)(h:∀w' s',Inv X pins σ H s' ->RelV v w' ->Q w' s'):
  wpAny (model X.prog X.w) A (getItem (.ref a) u) Q E s:=by
 obtain⟨b,rfl,hb⟩:=Zu I hk ry;obtain⟨z,hd,xs,rel,dd⟩:=uW I.hok e;obtain⟨w',hw,jD⟩:=jk.some_of (v:=v) (o:=(atKey xs k).map (·.2)) (by rw[<- l];exact rel.val k)
 obtain⟨p,hp,hp2⟩:=zG.mp hw;refine wpAny_getItem_heap (tupleKind_room_in1 hu) hb dd hp ?_;rw[hp2];exact h w' _ (I.tok _) jD
theorem z50(neg:Bool)(hu:A.units+1<cLine)(I:Inv X pins σ H s)(e:Rd H a (.dT kvs))(hk:kO X.K H y k)(ry:RelV y u)(h:∀s',Inv X pins σ H s' ->Q (.bool (if neg then !(bY kvs k).isSome else(bY kvs k).isSome)) s'):
  wpAny (model X.prog X.w) A (compareOp (if neg then .NotIn else .In) u (.ref a)) Q E s:=by
 obtain⟨b,rfl,hb⟩:=Zu I hk ry;obtain⟨z,hd,xs,rel,dd⟩:=uW I.hok e;have q:=(rel.val k).dO;rw[Option.isSome_map] at q;cases neg with
 | true=>
  refine wpAny_notIn_heap (tupleKind_room_in1 hu) hb hd dd ?_;rw[<- q];exact h _ (I.tok _)
 | false=>
  refine wpAny_in_heap (tupleKind_room_in1 hu) hb hd dd ?_;rw[<- q];exact h _ (I.tok _)
end
def yV(K:W.Frag)(td ty:TE):TE:=fun σ H Q=>td σ H fun x H1=>ty σ H1 fun y H2=>∃a kvs k v,x= .ref a/\Rd H2 a (.dT kvs)/\kO K H2 y k/\bY kvs k=some v/\Q v H2
def Gv(K:W.Frag)(neg:Bool)(ty td:TE):TE:=fun σ H Q=>ty σ H fun y H1=>td σ H1 fun x H2=>∃a kvs k,x= .ref a/\Rd H2 a (.dT kvs)/\kO K H2 y k/\Q (.bl (if neg then !(bY kvs k).isSome else(bY kvs k).isSome)) H2
def RW(K:W.Frag)(td ty:TE):TE:=fun σ H Q=>td σ H fun x H1=>∃a,x= .ref a/\Ak H1 a/\ty σ H1 fun y H2=>∃kvs k v,H2 a=some (.dT kvs)/\kO K H2 y k/\bY kvs k=some v/\Q v (upd H2 a (.dT (pU kvs k)))
section
variable{X:Cx}{o i e:Expr}{pos apos cpos:Pos}{td ty:TE}
theorem zyc(hu:X.A.units+1<cLine)(ho:PE X o td)(hi:PE X i ty)(hs:qF i):PE X (.Subscript o i pos) (yV X.K td ty):=by
 intro pins s σ H Q I h;refine Wq PySem.F.slot_dict_getitem.lookup hs (bD (ho pins s σ H _ I h) fun u s1 ⟨x,H1,I1,rx,q1⟩=>bD (hi pins s1 σ H1 _ I1 q1) fun iv s2 ⟨y,H2,I2,ry,a,kvs,k,v,ex,ea,hk,l,q2⟩=> ?_);subst ex;obtain rfl:u=Value.ref a:=rx;exact⟨(Jk I2 (.inr ⟨kvs,ea⟩)).1,z3w hu I2 ea hk l ry fun w' s3 I3 jD =>⟨v,H2,I3,jD,q2⟩⟩
theorem z1l(neg:Bool)(hu:X.A.units+1<cLine)(hi:PE X i ty)(ho:PE X o td):PC X (if neg then .NotIn else .In) i o (Gv X.K neg ty td):=by
 intro pins s σ H Q I h;refine bD (hi pins s σ H _ I h) fun iv s1 ⟨y,H1,I1,ry,q1⟩=>bD (ho pins s1 σ H1 _ I1 q1) fun u s2 ⟨x,H2,I2,rx,a,kvs,k,ex,ea,hk,q2⟩=> ?_;subst ex;obtain rfl:u=Value.ref a:=rx;exact z50 neg hu I2 ea hk ry fun s3 I3=>⟨.bl _,H2,I3,rfl,q2⟩
end
def iJ(ks:List (List Key))(k:List Key):Bool:=ks.any fun k' =>decide (k' =k)
theorem oA:iJ ks k=true↔k∈ks:=by
 unfold iJ;rw[List.any_eq_true];exact⟨fun⟨x,h,e⟩=>of_decide_eq_true e ▸ h,fun h=>⟨k,h,decide_eq_true rfl⟩⟩
def cW{α:Type}:List (List Key) ->List α ->List Key ->Option α
 | k' ::ks,x::xs,k=>if k' =k then some x else cW ks xs k
 | _,_,_=>none
theorem Zv(h:ks.length=vs.length)(k:List Key):(bY (ks.zip vs) k).isSome=iJ ks k:=by
 unfold bY iJ;rw[Option.isSome_map];induction ks generalizing vs with
 | nil=>rfl
 | cons k' ks ih=>
  cases vs with
  | nil=>cases h
  | cons v vs=>
   rw[List.zip_cons_cons,List.find?_cons,List.any_cons];by_cases q:k' =k
   ·simp [q]
   ·simp only [q,decide_false,Bool.false_or];exact ih (by simpa using h)
theorem Zw{K:W.Frag}{F:Hp}{k:List Key}{x:D}:∀{ks:List (List Key)} {xs:List D} {vs:List V},cW ks xs k=some x ->ak K F xs vs ->∃v,bY (ks.zip vs) k=some v/\Rep K F x v
 | [],_,_,h,_=>by cases h
 | _::_,[],_,h,_=>by cases h
 | k' ::ks,d::xs,vs,h,r=>by
  unfold ak at r;obtain⟨v,us,rfl,r1,r2⟩:=r;unfold cW at h;unfold bY;rw[List.zip_cons_cons,List.find?_cons];by_cases q:k' =k
  ·rw[if_pos q] at h;cases h;simp only [q,decide_true];exact⟨v,rfl,r1⟩
  ·rw[if_neg q] at h;simp only [q,decide_false];exact Zw h r2
theorem zuo{K:W.Frag}{F H:Hp}{k:List Key}{y:V}(s:Same F H)(r:Rep K F (.tup (k.map bO)) y):kO K H y k:=by
 unfold Rep at r;obtain⟨b,vs,rfl,hq,rs⟩:=r;have e:vs=k.map kV:=by
  clear hq;induction k generalizing vs with
  | nil=>unfold List.map ak at rs;exact rs
  | cons q k ih=>
   rw[List.map_cons] at rs;unfold ak at rs;obtain⟨v,us,rfl,r1,r2⟩:=rs;rw[List.map_cons,uF r1,ih us r2]
 subst e;exact⟨b,rfl,j4 s hq⟩
def putL(ks:List (List Key))(k:List Key):List (List Key):=if iJ ks k=true then ks else ks++ [k]
def gk{α:Type}(ks:List (List Key))(xs:List α)(k:List Key)(x:α):List α:=if iJ ks k=true then List.zipWith (fun k' y=>if k' =k then x else y) ks xs else xs++ [x]
def m8{α:Type}:List (List Key) ->List α ->List Key ->List α
 | k' ::ks,x::xs,k=>if k' =k then m8 ks xs k else x::m8 ks xs k
 | _,_,_=> []
def wA(ks:List (List Key))(k:List Key):List (List Key):=ks.filter fun k' =>decide (k' ≠k)
theorem Zx:∀{ks:List (List Key)} {vs:List V},ks.length=vs.length ->(ks.zip vs).map (fun kv=>if kv.1=k then(kv.1,v) else kv)=ks.zip (List.zipWith (fun k' y=>if k' =k then v else y) ks vs)
 | [],_,_=>rfl
 | _::_,[],h=>by cases h
 | k' ::ks,w::vs,h=>by
  rw[List.zip_cons_cons,List.map_cons,List.zipWith_cons_cons,List.zip_cons_cons,Zx (by simpa using h)]
  by_cases q:k' =k<;>simp [q]
theorem zwr(h:ks.length=vs.length):putK (ks.zip vs) k v=(putL ks k).zip (gk ks vs k v)/\ (putL ks k).length=(gk ks vs k v).length:=by
 unfold putK putL gk;have e:((ks.zip vs).any fun kv=>decide (kv.1=k))=iJ ks k:=by
  rw[Ny,Zv h]
 rw[e];by_cases q:iJ ks k=true
 ·rw[if_pos q,if_pos q,if_pos q];exact⟨Zx h,by rw[List.length_zipWith,<- h,Nat.min_self]⟩
 ·rw[if_neg q,if_neg q,if_neg q,List.zip_append h];exact⟨rfl,by simp [h]⟩
theorem Zy{K:W.Frag}{F:Hp}{k:List Key}{d:D}{v:V}(r:Rep K F d v):∀{ks:List (List Key)} {xs:List D} {vs:List V},ak K F xs vs ->ak K F (List.zipWith (fun k' y=>if k' =k then d else y) ks xs) (List.zipWith (fun k' y=>if k' =k then v else y) ks vs)
 | [],xs,vs,h=>by simp [ak]
 | _::_,[],vs,h=>by unfold ak at h;subst h;simp [ak]
 | k' ::ks,x::xs,vs,h=>by
  unfold ak at h;obtain⟨u,us,rfl,h1,h2⟩:=h;rw[List.zipWith_cons_cons,List.zipWith_cons_cons];refine oU ?_ (Zy r h2);by_cases q:k' =k
  ·rw[if_pos q,if_pos q];exact r
  ·rw[if_neg q,if_neg q];exact h1
theorem zuu{K:W.Frag}{F:Hp}{ks:List (List Key)}{xs:List D}{vs:List V}{k:List Key}{d:D}{v:V}(h:ak K F xs vs)(r:Rep K F d v):ak K F (gk ks xs k d) (gk ks vs k v):=by
 unfold gk;split
 ·exact Zy r h
 ·exact xV h (DQ r)
def vB:D ->D ->(D ->Prop) ->Prop:=fun x y P=>match x,y with | .dG ks xs,.tup ds=>∃k d,ds=k.map bO/\cW ks xs k=some d/\P d | _,_=>False
section
variable{X:Cx}{F0 H0:Hp}{a b:Expr}{pos:Pos}{ta tb:aG}
theorem Zz(hu:X.A.units+1<cLine)(ha:QE X F0 H0 a ta)(hb:QE X F0 H0 b tb)(hs:qF b:=by exact fun _ _=>rfl):QE X F0 H0 (.Subscript a b pos) (cB vB ta tb):=fun z E cx=>
 jg (zyc (X:=X.wsh z) hu (ha z E cx) (hb z E cx) hs) fun σ H Q qx=>by obtain⟨F,Γ,P,R,h,k⟩:=qx;exact⟨F,Γ,_,R,h,fun d1 Γ1 F1 H1 v1 R1 s1 r1 h1=>⟨F1,Γ1,_,R1,h1,fun d2 Γ2 F2 H2 v2 R2 s2 r2 h2=>by
  unfold vB at h2;split at h2
  ·obtain⟨kk,d,rfl,hl,hp⟩:=h2;have r1' :=r1.up s2;unfold Rep at r1';obtain⟨c,vs,rfl,ec,hkl,rs⟩:=r1';obtain⟨v,hv,rv⟩:=Zw hl rs;exact⟨c,_,kk,v,rfl,.inl (R2.g _ _ ec),zuo R2.g r2,hv,k d Γ2 F2 H2 v R2 (s1.trans s2) rv hp⟩
  ·exact h2.elim⟩⟩
end
def oE:List Str ->List T ->Str ->Option T
 | f::fs,t::ts,g=>if g=f then some t else oE fs ts g
 | _,_,_=>none
def sY :List Str ->List T ->Str ->T ->List T
 | f::fs,t::ts,g,t' =>if g=f then t' ::ts else t::sY fs ts g t'
 | _,ts,_,_=>ts
def ZC(C:Addr)(i:Nat)(f:Str):aG:=fun Γ P _=>∃as fs ts d,Γ[i]?=some (.tr as (.ob C fs ts))/\oE fs ts f=some (.leaf d)/\P d Γ
def aa7(C:Addr)(neg:Bool)(i:Nat)(f:Str)(tk:aG):TT2:=fun Γ P E=>tk Γ (fun kd Γ1=>∃k as fs ts ks us,kd= .tup (k.map bO)/\Γ1[i]?=some (.tr as (.ob C fs ts))/\oE fs ts f=some (.dG ks us)/\P (if neg then !iJ ks k else iJ ks k) Γ1) E
def ZD(C:Addr)(i:Nat)(f:Str)(j l:Nat)(tv:aG):au:=fun D Γ E=>tv Γ (fun d Γ1=>∃k1 k2 as fs ts ks xs,Γ1[j]?=some (.pu (bO k1))/\Γ1[l]?=some (.pu (bO k2))/\Γ1[i]?=some (.tr as (.ob C fs ts))/\oE fs ts f=some (.dG ks (xs.map .leaf))/\ks.length<sizeLine/\
 D.nx (Γ1.set i (.tr as (.ob C fs (sY fs ts f (.dG (putL ks [k1,k2]) ((gk ks xs [k1,k2] d).map .leaf))))))) E
def ZF(C:Addr)(i:Nat)(f:Str)(j l:Nat):au:=fun D Γ _=>∃k1 k2 as fs ts ks xs d,Γ[j]?=some (.pu (bO k1))/\Γ[l]?=some (.pu (bO k2))/\Γ[i]?=some (.tr as (.ob C fs ts))/\oE fs ts f=some (.dG ks (xs.map .leaf))/\cW ks xs [k1,k2]=some d/\
 D.nx (Γ.set i (.tr as (.ob C fs (sY fs ts f (.dG (wA ks [k1,k2]) ((m8 ks xs [k1,k2]).map .leaf))))))
section
variable{X:Cx}{F0 H0:Hp}{ke value e:Expr}{es:List Expr}{pos npos aa8 apos cpos pos' x1:Pos}{x f:Str}{C:Addr}{i:Nat}{tk tv:aG}{tf:aZ}
end
def ZG:jj:=fun Γ P _=>P (.dG [] []) Γ
def ZJ(C:Addr)(i:Nat)(f:Str)(te:aG):au:=fun D Γ E=>te Γ (fun d Γ1=>∃as fs ts,Γ1[i]?=some (.tr as (.ob C fs ts))/\f∉fs/\fs.length<1000/\rM (fs++ [f])=true/\D.nx (Γ1.set i (.tr as (.ob C (fs++ [f]) (ts++ [.leaf d]))))) E
def RX(C:Addr)(i:Nat)(f:Str)(tn:jj):au:=fun D Γ E=>tn Γ (fun t Γ1=>∃as fs ts,Γ1[i]?=some (.tr as (.ob C fs ts))/\f∉fs/\fs.length<1000/\rM (fs++ [f])=true/\∀cs,D.nx (Γ1.set i (.tr (as++cs) (.ob C (fs++ [f]) (ts++ [t]))))) E
section
variable{X:Cx}{F0 H0:Hp}{value e:Expr}{es:List Expr}{pos npos pos' p:Pos}{x f:Str}{C fa:Addr}{fd:FuncData}{ps:List Str}{i k:Nat}{te:aG}{tn:jj}{sp:uG}{t:aZ}
theorem zxx:QN X F0 H0 (.Dict [] [] pos) ZG:=fun z E cx=>
 jg zxw fun σ H Q hq1 q hq=>by
  obtain⟨F,Γ,P,R,h,k⟩:=hq1;have R2:SR X.K F0 H0 F (upd H q (.dT [])) σ Γ:=R.grow ⟨.refl _,fun b u e=>by rw[cQ (jV (R.g b u e) hq)];exact R.g b u e,fun b u e=>by rw[cQ (jV e hq)];exact e,fun b o e n=>by rw[e] at n;cases n⟩
  refine k _ _ _ _ _ [q] R2 (.refl _) (by simp) (fun b hb=>by rw[List.mem_singleton.mp hb];exact⟨R.g.free hq,R.gr.h.free hq,R.apart hq⟩) ?_ h
  unfold TR;exact⟨q,[],[],rfl,rfl,jL,rfl,by unfold cJ;exact⟨rfl,rfl⟩⟩
def RZ(C:Addr)(sp:uG)(t:aZ):jj:=fun Γ P E=>t Γ (fun ds Γ1=>sp (.ob C [] []) ds (fun t' _=>P t' Γ1) fun _ Cx=>E Γ1 Cx) E
structure aa9 (P:Program) (w:World) (K:W.Frag) (mg:Str ->Option Value) (base:Heap) (x:Str) (C:Addr) (k:Nat) (ps:List Str) (sp:uG):Prop where
 ex:∃f fd,dX P w K mg base (gK P w) k f fd ps (sX K sp)/\Mk K C f/\mg x=some (.ref C)/\Binds K fd ps []
 non:∀ds Q Ex,sp (.ob C [] []) ds Q Ex ->sp (.ob C [] []) ds (fun t d=>d= .non/\Q t d) Ex
end
def R7(C:Addr)(m:Str)(sp:cD)(te:aG):aG:=fun Γ P E=>te Γ (fun d Γ1=>match d with
 | .obj C' fs ds=>C' =C/\m∉fs/\sp [.obj C' fs ds] (fun r=>P r Γ1) fun Cx=>E Γ1 Cx
 | _=>False) E
section
variable{X:Cx}{F0 H0:Hp}{o:Expr}{pos apos:Pos}{m:Str}{C:Addr}{ps:List Str}{k:Nat}{sp:cD}{te:aG}
end
abbrev P2:=Str×Str
def R8(a b:P2):Bool:=iI a.1 b.1 || (decide (a.1=b.1)&&iI a.2 b.2)
def ZK:P2:=(Str.empty,Str.empty)
def abb(xs:List P2)(i j:Nat):Bool:=R8 (xs.getD i ZK) (xs.getD j ZK)
def abd(h:Heap)(v:Value)(p:P2):Prop:=∃(a:Addr) (o:Obj) (m:Nat) (t u:Tok),v= .ref a/\h.get? a=some o/\o.cls= .type "tuple" /\o.data= .seq #[.str p.1 t,.str p.2 u] m
def ZL(p:P2):List Key:= [.inr p.1,.inr p.2]
def pairD(p:P2):D:= .tup [.str p.1,.str p.2]
def za(H:Hp)(w:V)(p:P2):Prop:=∃b,w= .ref b/\H b=some (.tup [.str p.1,.str p.2])
def R9(X:Cx):List V ->Hp ->VK ->Prop:=fun vs H Q=>∃(q:Addr) (kvs:List (List Key×V)) (ps:List P2),vs= [.ref q]/\Rd H q (.dT kvs)/\kvs.map (·.1)=ps.map ZL/\ps.length<64/\
 ∀(l:Addr) (ms:List P2) (ws:List V),H l=none ->ms.Perm ps ->ms.Pairwise (fun a b=>R8 a b=true) ->ws.length=ms.length ->(∀(i:Nat) w p,ws[i]?=some w ->ms[i]?=some p ->za H w p) ->Q (.ref l) (upd H l (.lst ws))
def z5e:List D ->(List D ->Prop) ->Prop:=fun ds P=>match ds with
 | [.dG ks _]=>∃ps:List P2,ks=ps.map ZL/\ps.length<64/\∀ms:List P2,ms.Perm ps ->ms.Pairwise (fun a b=>R8 a b=true) ->P (ms.map pairD)
 | _=>False
section
variable{X:Cx}{F0 H0:Hp}{a:Expr}{pos p:Pos}{t:aZ}
end
def signs(x:Str):List Str:=x.cps.toList.map fun c=>⟨#[c]⟩
def Itx(x:Str):It:=⟨fun i _=>i<x.cps.size,fun i H v H' =>H' =H/\∃c,x.cps[i]?=some c/\v= .str ⟨#[c]⟩,fun i _=>x.cps.size<=i⟩
def abe(te:TE):TI:=fun σ H R=>te σ H fun v H1=>∃x,v= .str x/\R (Itx x) H1
def z6l(te:aG):aZ:=fun Γ P E=>te Γ (fun d Γ1=>match d with | .str x=>x.length<=sizeLine/\P ((signs x).map .str) Γ1 | _=>False) E
section
variable{X:Cx}{F0 H0:Hp}{e tg:Expr}{te:aG}
end
def abf:D ->D ->(D ->Prop) ->Prop:=fun x y P=>match x,y with | .str a,.str b=>P (.bl (!iI b a)) | _,_=>False
def Gw(x:Str)(b:Nat):Str:=⟨(x.cps.toList.take b).toArray⟩
def Gx(x:Str)(a:Nat):Str:=⟨(x.cps.toList.drop a).toArray⟩
def abg:V ->Option Int ->Option Int ->Hp ->VK ->Prop:=fun x lo hi H Q=>∃z:Str,x= .str z/\z.length<=sizeLine/\ ((∃b:Nat,lo=none/\hi=some (b:Int)/\Q (.str (Gw z b)) H)\/∃a:Nat,lo=some (a:Int)/\hi=none/\Q (.str (Gx z a)) H)
def abh(te:aG)(tl th:uw):aG:=fun Γ P E=>te Γ (fun d Γ1=>tl Γ1 (fun l Γ2=>th Γ2 (fun u Γ3=>match d with
 | .str z=>z.length<=sizeLine/\ ((∃b:Nat,l=none/\u=some (b:Int)/\P (.str (Gw z b)) Γ3)\/∃a:Nat,l=some (a:Int)/\u=none/\P (.str (Gx z a)) Γ3)
 | _=>False) E) E) E
section
variable{X:Cx}{F0 H0:Hp}{e:Expr}{lo hi:Option Expr}{pos p2:Pos}{te:aG}{tl th:uw}
end
def cUp(te:aG):aG:=fun Γ P E=>te Γ (fun d Γ1=>match d with | .str z=>∃c:Nat,z=⟨#[c]⟩/\97<=c/\c<=122/\P (.str ⟨#[c - 32]⟩) Γ1 | _=>False) E
section
variable{X:Cx}{F0 H0:Hp}{o:Expr}{apos cpos:Pos}{te:aG}
end
def z2p:List D ->D ->(D ->Prop) ->Prop:=fun xs y P=>match y with
 | .bl true=>∃(bs:List Bool) (j:Nat),xs=bs.map .bl/\bs[j]?=some true/\ (∀m,m<j ->bs[m]?=some false)/\bs.length<1000/\P (.int j)
 | _=>False
def abj(ta tb:aG):aG:=fun Γ P E=>ta Γ (fun d Γ1=>match d with | .lst xs=>tb Γ1 (fun y Γ2=>z2p xs y fun r=>P r Γ2) E | _=>False) E
section
variable{X:Cx}{F0 H0:Hp}{o e:Expr}{apos cpos:Pos}{ta tb:aG}
end
section
variable{X:Cx}{F0 H0:Hp}{e:Expr}{es:List Expr}{pos p np:Pos}{x y:Str}{ps:List Str}{k i:Nat}{sp:uG}{t:aZ}
end
section
variable{prog:Program}{w:World}{A:Around}{E:bH}{s:Shared}
end
def ZM(K:W.Frag)(n:Nat)(t:uN):TG:=fun v σ H Q=>∃a xs,v= .ref a/\fL K H a xs/\xs.length=n/\t xs σ H Q
def abk(n:Nat)(gs:lQ):jO:=fun d Γ Q E=>match d with | .lst ds=>ds.length=n/\gs ds Γ Q E | _=>False
section
variable{X:Cx}{F0 H0:Hp}{es:List Expr}{gs:lQ}{pos:Pos}
end
def Gy:List Str ->Str
 | []=>Str.empty
 | x::xs=>x++Gy xs
def Gz:List Str ->Nat
 | []=>0
 | x::xs=>x.length+Gz xs
def ZP(te:aG):aG:=fun Γ P E=>te Γ (fun d Γ1=>match d with | .lst ds=>∃xs:List Str,ds=xs.map .str/\Gz xs<1000/\P (.str (Gy xs)) Γ1 | _=>False) E
section
variable{X:Cx}{F0 H0:Hp}{e:Expr}{apos cpos spos:Pos}{j}{te:aG}
end
section
variable{prog:Program}{w:World}{A:Around}{E:bH}{s:Shared}
end
def cmH(X:Cx):Prop:=∃a o u vs,X.A.handled=some (.ref a)/\X.H₀ a=some (.frz o u)/\o.data= .fields vs/\vs[2]?=some Value.none
def iLh(te:aG):aZ:=fun Γ P E=>te Γ (fun d Γ1=>match d with | .lst ds=>P ds Γ1 | _=>False) E
section
variable{X:Cx}{F0 H0:Hp}{e tg:Expr}{te:aG}{a:Addr}
end
def ZQ(i:Nat)(t:jj):au:=fun D Γ E=>t Γ (fun tr Γ1=>((∀d,tr≠ .leaf d)/\∀k,tr≠ .kt k)/\∀a bs,D.nx (Γ1.set i (.tr (a::bs) tr))) E
def ZR(j:Nat)(t:aZ):au:=fun D Γ E=>t Γ (fun ds Γ1=>ds.length<=sizeLine/\∃k:List Key,ds=k.map bO/\D.nx (Γ1.set j (.tr [] (.kt k)))) E
def GC(neg:Bool)(i j:Nat):TT2:=fun Γ P _=>∃k as ks us,Γ[j]?=some (.tr [] (.kt k))/\Γ[i]?=some (.tr as (.dG ks us))/\P (if neg then !iJ ks k else iJ ks k) Γ
def abl(i j:Nat):aG:=fun Γ P _=>∃k as ks xs d,Γ[j]?=some (.tr [] (.kt k))/\Γ[i]?=some (.tr as (.dG ks (xs.map .leaf)))/\cW ks xs k=some d/\P d Γ
def wB(i j:Nat)(tv:aG):au:=fun D Γ E=>tv Γ (fun d Γ1=>∃k as ks xs,Γ1[j]?=some (.tr [] (.kt k))/\Γ1[i]?=some (.tr as (.dG ks (xs.map .leaf)))/\ks.length<sizeLine/\D.nx (Γ1.set i (.tr as (.dG (putL ks k) ((gk ks xs k d).map .leaf))))) E
def ZS(i j:Nat):au:=fun D Γ _=>∃k as ks xs d,Γ[j]?=some (.tr [] (.kt k))/\Γ[i]?=some (.tr as (.dG ks (xs.map .leaf)))/\cW ks xs k=some d/\D.nx (Γ.set i (.tr as (.dG (wA ks k) ((m8 ks xs k).map .leaf))))
theorem Sd{K:W.Frag}{F:Hp}:∀{k:List Key} {vs:List V},ak K F (k.map bO) vs ->vs=k.map kV
 | [],vs,h=>by unfold List.map ak at h;exact h
 | x::k,vs,h=>by
  rw[List.map_cons] at h;unfold ak at h;obtain⟨v,r,rfl,h1,h2⟩:=h;rw[uF h1,Sd h2];rfl
section
variable{X:Cx}{F0 H0:Hp}{value:Expr}{es:List Expr}{pos npos kpos apos cpos pos' x1:Pos}{x y:Str}{i j:Nat}{tv:aG}{t:aZ}
theorem ZV{K:W.Frag}{F H:Hp}{σ:St}{Γ:G2}{k:List Key}(R:SR K F0 H0 F H σ Γ)(e0:Γ[j]?=some (.tr [] (.kt k))):∃p,σ[j]?=some (some (.ref p))/\F p=some (.tup (k.map kV)):=by
 obtain⟨o,e1,v,rfl,nd,hn,r⟩:=R.sl j _ e0;unfold TR at r;obtain⟨_,p,rfl,e2⟩:=r;exact⟨p,e1,e2⟩
theorem z0p{K:W.Frag}{F H:Hp}{σ:St}{Γ:G2}{as:List Addr}{ks:List (List Key)}{us:List T}(R:SR K F0 H0 F H σ Γ)(e0:Γ[i]?=some (.tr as (.dG ks us))):∃c ws,σ[i]?=some (some (.ref c))/\H c=some (.dT (ks.zip ws))/\ks.length=ws.length:=by
 obtain⟨o,e1,v,rfl,nd,hn,r⟩:=R.sl i _ e0;unfold TR at r;obtain⟨c,ws,_,rfl,_,e2,e3,_⟩:=r;exact⟨c,ws,e1,e2,e3⟩
theorem z06{K:W.Frag}{F H:Hp}{σ:St}{Γ:G2}{as:List Addr}{ks ks' :List (List Key)}{xs xs' :List D}(R:SR K F0 H0 F H σ Γ)(e0:Γ[i]?=some (.tr as (.dG ks (xs.map .leaf)))):
  ∃c ws,σ[i]?=some (some (.ref c))/\H c=some (.dT (ks.zip ws))/\ks.length=ws.length/\ak K F xs ws/\∀ws',ks'.length=ws'.length ->ak K F xs' ws' ->SR K F0 H0 F (L2.upd H c (.dT (ks'.zip ws'))) σ (Γ.set i (.tr as (.dG ks' (xs'.map .leaf)))):=by
 obtain⟨o,e1,v,rfl,nd,hn,r⟩:=R.sl i _ e0;unfold TR at r;obtain⟨c,ws,ds,rfl,rfl,ec,hkl,rl⟩:=r;obtain⟨rfl,rs⟩:=J4 rl;refine⟨c,ws,e1,ec,hkl,rs,fun ws' hl' rs' => ?_⟩;refine R.wrT e0 e1 (show dY (Slot.tr [c] (.dG ks (xs.map .leaf))) (some (.ref c)) c from by show c∈ [c];simp) (t:= .tr [c] (.dG ks' (xs'.map .leaf))) ⟨_,rfl,nd,hn,?_⟩ fun b hb=> .inl hb
 unfold TR;exact⟨c,ws',[],rfl,rfl,jL,hl',Gb rs'⟩
theorem z4y(neg:Bool)(hu:X.A.units+1<cLine)(yS:X.N[j]?=some y)(hv2:mU X.env.scope y)(hN:X.N[i]?=some x)(hv:mU X.env.scope x)(hd:(x==("__debug__" :Str))=false:=by decide)(hcd:(x==("__classdict__" :Str))=false:=by decide)
  (hd2:(y==("__debug__" :Str))=false:=by decide) (pG:(y==("__classdict__" :Str))=false:=by decide) (hm:behindInMarks (if neg then .NotIn else .In) (.Name x npos)=false:=by with_unfolding_all rfl):
  QT X F0 H0 (.Compare (.Name y kpos) [if neg then .NotIn else .In] [.Name x npos] pos) (GC neg i j):=fun z E cx=>
 Ao (Lr (X:=X.wsh z) (z1l (X:=X.wsh z) neg hu (o7 (X:=X.wsh z) (i:=j) yS hv2 hd2 pG) (o7 (X:=X.wsh z) (i:=i) hN hv hd hcd)) hm) fun σ H Q hq2=>by
  obtain⟨F,Γ,P,R,⟨kk,as,ks,us,e1,e2,h⟩,k⟩:=hq2;obtain⟨p,g1,g2⟩:=ZV R e1;obtain⟨c,ws,g3,g4,g5⟩:=z0p R e2;refine⟨.ref p,g1,.ref c,g3,c,_,kk,rfl,.inl g4,⟨p,rfl,.inl (.inl (R.g _ _ g2))⟩,_,rfl,?_⟩;rw[Zv g5];exact k _ _ _ _ R (.refl _) h
theorem z2e(hu:X.A.units+1<cLine)(hval:QE X F0 H0 value tv)(yS:X.N[j]?=some y)(hv2:mU X.env.scope y)(hN:X.N[i]?=some x)(hv:mU X.env.scope x)(hd:(x==("__debug__" :Str))=false:=by decide)(hcd:(x==("__classdict__" :Str))=false:=by decide)
  (hd2:(y==("__debug__" :Str))=false:=by decide) (pG:(y==("__classdict__" :Str))=false:=by decide) (hs:swapsWith value (some (.Subscript (.Name x npos) (.Name y kpos) pos')) pos.line X.env=pure false:=by rfl):
  QS X F0 H0 (.Assign [.Subscript (.Name x npos) (.Name y kpos) pos'] value pos) (wB i j tv):=fun z E cx=>
 lY (Jj (X:=X.wsh z) hu (o7 (X:=X.wsh z) (i:=i) hN hv hd hcd) (o7 (X:=X.wsh z) (i:=j) yS hv2 hd2 pG) (hval z E cx) hs) fun Dn σ H pB=>by obtain⟨F,Γ,D2,R,h,k⟩:=pB;exact⟨F,Γ,_,R,h,fun d Γ1 F1 H1 v R1 s1 rd uh=>by
  obtain⟨kk,as,ks,xs,e1,e2,hz,hnx⟩:=uh;obtain⟨p,g1,g2⟩:=ZV R1 e1;obtain⟨c,ws,g3,g4,g5,rs,back⟩:=z06 (ks' :=putL ks kk) (xs' :=gk ks xs kk d) R1 e2;obtain⟨q1,q2⟩:=zwr (k:=kk) (v:=v) g5;refine⟨.ref c,g3,.ref p,g1,c,_,rfl,jZ.t (k:=kk) g4 (R1.g _ _ g2) (by rw[List.length_zip,<- g5,Nat.min_self];exact hz),?_⟩
  rw[q1];exact k.nx _ _ _ _ (back _ q2 (zuu rs rd)) s1 hnx⟩
end
section
variable{K:W.Frag}{F0 H0 F H:Hp}{σ:St}{Γ:List Slot}
open Classical in
end
def cVF(i:Nat):aG:=fun Γ P _=>∃as t,Γ[i]?=some (.tr as t)/\P (toD t) (Γ.set i (.pu (toD t)))
structure abm (P:Program) (w:World) (K:W.Frag) (mg:Str ->Option Value) (base:Heap) (C:Addr) (m:Str) (k:Nat) (ps:List Str) (sp:qe):Prop where
 ex:∃f fd,dX P w K mg base (gK P w) k f fd ps (n8 K sp)/\Meth K C m f/\Binds K fd ps []
def Sg(C:Addr)(m:Str)(sp:qe)(te:aG):jj:=fun Γ P E=>te Γ (fun d Γ1=>match d with
 | .obj C' fs ds=>C' =C/\m∉fs/\sp [.obj C' fs ds] (fun t=>P t Γ1) fun Cx=>E Γ1 Cx
 | _=>False) E
section
variable{X:Cx}{F0 H0:Hp}{o:Expr}{pos apos:Pos}{m:Str}{C:Addr}{ps:List Str}{k:Nat}{sp:qe}{te:aG}
end
def Itk(a:Addr)(o:Obj)(kvs:List (List Key×V))(bs:List Addr):It:=⟨fun i H=>H a=some (.frz o (.dT kvs))/\i<bs.length,fun i H x H' =>H' =H/\∃b,bs[i]?=some b/\x= .ref b,fun i H=>H a=some (.frz o (.dT kvs))/\bs.length<=i⟩
def ZW(Hz:Hp)(te:TE):TI:=fun σ H R=>te σ H fun v H1=>∃a kvs,v= .ref a/\H1 a=some (.dT kvs)/\ (kvs.length<=sizeLine ->(∀o u,Hz a≠some (.frz o u)) ->∀o (bs:List Addr),bs.length=kvs.length ->(∀(i:Nat) b kv,bs[i]?=some b ->kvs[i]?=some kv ->H1 b=some (.tup (kv.1.map kV))) ->R (Itk a o kvs bs) (upd H1 a (.frz o (.dT kvs))))
def ZX(n:Nat)(g:jO)(te:aG)(ti:aG):aZ:=fun Γ P E=>ti Γ (fun d Γ1=>match d with
 | .dG ks _=>bJ (vg g gj te (List.replicate n .no)) (ks.map fun k=> .tup (k.map bO)) fun ys=>∃zs:List Str,ys=zs.map .str/\P ys Γ1
 | _=>False) E
section
variable{X:Cx}{F0 H0:Hp}{sc:Scope}{own:List Str}{N' :List Str}{elt tg iter:Expr}{pos:Pos}{ti te:aG}{g:jO}
end
def vC:D ->Option (List Key×List D)
 | .dic ks xs=>some (ks,xs)
 | .nO ks xs=>some (ks,xs)
 | _=>none
def dI:List Key ->List D ->Key ->Option D
 | k' ::ks,x::xs,k=>if k' =k then some x else dI ks xs k
 | _,_,_=>none
theorem Bv{K:W.Frag}{F:Hp}{d:D}{v:V}{ks:List Key}{xs:List D}(h:vC d=some (ks,xs))(r:Rep K F d v):∃a vs,v= .ref a/\Rd F a (.dK (ks.zip vs))/\ks.length=vs.length/\ak K F xs vs:=by
 cases d with
 | dic ks' xs' =>
  cases h;unfold Rep at r;obtain⟨a,vs,rfl,e,l,rs⟩:=r;exact⟨a,vs,rfl,.inl e,l,rs⟩
 | nO ks' xs' =>
  cases h;unfold Rep at r;obtain⟨a,o,vs,rfl,e,l,rs⟩:=r;exact⟨a,vs,rfl,.inr ⟨o,e⟩,l,rs⟩
 | _=>cases h
theorem zc(s:Same F H)(r:Rd F a u):Rd H a u:=by
 rcases r with r | ⟨o,r⟩
 ·exact .inl (s _ _ r)
 ·exact .inr ⟨o,s _ _ r⟩
theorem Sh{K:W.Frag}{F:Hp}{k:Key}:∀{ks:List Key} {xs:List D} {vs:List V},ak K F xs vs ->(∀d,dI ks xs k=some d ->∃v,bY (ks.zip vs) k=some v/\Rep K F d v)/\ (dI ks xs k=none ->bY (ks.zip vs) k=none)
 | [],xs,vs,_=>by
  refine⟨fun d h=> ?_,fun _=>rfl⟩;unfold dI at h;cases h
 | _::_,[],vs,r=>by
  unfold ak at r;subst r;refine⟨fun d h=> ?_,fun _=>rfl⟩;unfold dI at h;cases h
 | k' ::ks,x::xs,vs,r=>by
  unfold ak at r;obtain⟨v,us,rfl,r1,r2⟩:=r;have ih:=Sh (k:=k) (ks:=ks) r2;unfold bY at ih⊢;rw[List.zip_cons_cons,List.find?_cons];unfold dI;by_cases q:k' =k
  ·refine⟨fun d h=> ?_,fun h=> ?_⟩
   ·rw[if_pos q] at h;cases h;exact⟨v,by simp [q],r1⟩
   ·rw[if_pos q] at h;cases h
  ·rw[if_neg q];simp only [q,decide_false];exact ih
def gq:D ->D ->(D ->Prop) ->Prop:=fun x y P=>∃ks xs k d,vC x=some (ks,xs)/\y=bO k/\dI ks xs k=some d/\P d
def GD(neg:Bool):D ->D ->(D ->Prop) ->Prop:=fun x y P=>∃ks xs k,vC y=some (ks,xs)/\x=bO k/\P (.bl (if neg then !iV ks k else iV ks k))
def sZ(td ty tx:aG):aG:=fun Γ P E=>td Γ (fun d Γ1=>∃ks xs,vC d=some (ks,xs)/\ty Γ1 (fun kd Γ2=>tx Γ2 (fun df Γ3=>∃k,kd=bO k/\P ((dI ks xs k).getD df) Γ3) E) E) E
def J9:List D ->(D ->Prop) ->Prop:=fun ds P=>match ds with | [d]=>∃ks xs,vC d=some (ks,xs)/\P (.int ks.length) | _=>False
section
variable{X:Cx}{F0 H0:Hp}{a b o e f:Expr}{pos apos cpos:Pos}{ta tb td ty tx:aG}
theorem vD(hu:X.A.units+1<cLine)(ha:QE X F0 H0 a ta)(hb:QE X F0 H0 b tb)(hs:qF b:=by exact fun _ _=>rfl):QE X F0 H0 (.Subscript a b pos) (cB gq ta tb):=fun z E cx=>
 jg (Wt (X:=X.wsh z) hu (ha z E cx) (hb z E cx) hs) fun σ H Q qx=>by obtain⟨F,Γ,P,R,h,k⟩:=qx;exact⟨F,Γ,_,R,h,fun d1 Γ1 F1 H1 v1 R1 s1 r1 h1=>⟨F1,Γ1,_,R1,h1,fun d2 Γ2 F2 H2 v2 R2 s2 r2 h2=>by
  obtain⟨ks,xs,kk,d,e1,rfl,hl,hp⟩:=h2;obtain⟨c,vs,rfl,ec,hkl,rs⟩:=Bv e1 (r1.up s2);have ev:=uF r2;subst ev;obtain⟨v,hv,rv⟩:=(Sh rs).1 d hl;exact⟨c,v,rfl,.inl ⟨_,kk,zc R2.g ec,rfl,hv.symm⟩,k d Γ2 F2 H2 v R2 (s1.trans s2) rv hp⟩⟩⟩
theorem z43(hu:X.A.units+1<cLine)(ha:QE X F0 H0 a ta)(hb:QE X F0 H0 b tb)(hm:behindInMarks .In b=false):QT X F0 H0 (.Compare a [.In] [b] pos) (cT (cB (GD false) ta tb)):=fun z E cx=>
 Ao (Lr (X:=X.wsh z) (z4j (X:=X.wsh z) hu (ha z E cx) (hb z E cx)) hm) fun σ H Q qx=>by obtain⟨F,Γ,P,R,h,k⟩:=qx;exact⟨F,Γ,_,R,h,fun d1 Γ1 F1 H1 v1 R1 s1 r1 h1=>⟨F1,Γ1,_,R1,h1,fun d2 Γ2 F2 H2 v2 R2 s2 r2 h2=>by
  obtain⟨ks,xs,kk,e1,rfl,hp⟩:=h2;obtain⟨c,vs,rfl,ec,hkl,rs⟩:=Bv e1 r2;have ev:=uF r1;subst ev;refine⟨c,_,rfl,.inl ⟨_,kk,zc R2.g ec,rfl,rfl⟩,_,rfl,?_⟩;rw[Zq hkl];exact k _ Γ2 F2 H2 R2 (s1.trans s2) hp⟩⟩
theorem Z0(hu:X.A.units+1<cLine)(ho:QE X F0 H0 o td)(he:QE X F0 H0 e ty)(hf:QE X F0 H0 f tx)(m:M2 X o "get" apos e f cpos):QE X F0 H0 (.Call (.Attribute o "get" apos) [e,f] [] cpos) (sZ td ty tx):=fun z E cx=>
 jg (zxr (X:=X.wsh z) hu (ho z E cx) (he z E cx) (hf z E cx) ⟨m.base,m.few,m.line,m.trees⟩) fun σ H Q qx=>by obtain⟨F,Γ,P,R,h,k⟩:=qx;exact⟨F,Γ,_,R,h,fun d1 Γ1 F1 H1 v1 R1 s1 r1 h1=>by
  obtain⟨ks,xs,e1,h1⟩:=h1;obtain⟨c,vs,rfl,ec,hkl,rs⟩:=Bv e1 r1;exact⟨c,rfl,.inl ⟨_,zc R1.g ec⟩,F1,Γ1,_,R1,h1,fun d2 Γ2 F2 H2 v2 R2 s2 r2 h2=>⟨F2,Γ2,_,R2,h2,fun d3 Γ3 F3 H3 v3 R3 s3 r3 h3=>by
   obtain⟨kk,rfl,hp⟩:=h3;have ev:=uF r2;subst ev;have q:=Sh (k:=kk) (ks:=ks) (rs.up (s2.trans s3));refine⟨_,.inl ⟨_,kk,zc (s2.trans (s3.trans R3.g)) ec,rfl,rfl⟩,?_⟩;cases el:dI ks xs kk with
   | none=>
    rw[q.2 el];rw[el] at hp;exact k d3 Γ3 F3 H3 v3 R3 (s1.trans (s2.trans s3)) r3 hp
   | some d=>
    obtain⟨v,hv,rv⟩:=q.1 d el;rw[hv];rw[el] at hp;exact k d Γ3 F3 H3 v R3 (s1.trans (s2.trans s3)) rv hp⟩⟩⟩
theorem Z1:cg X (.builtin "len") (mX X.K J9):=by
 rintro pins s σ H xs us Q I r ⟨F,ds,P,sF,rs,h,k⟩;unfold J9 at h;split at h
 ·unfold ak ak at rs;obtain⟨v,_,rfl,rd,rfl⟩:=rs;obtain⟨ks,xs,e1,h⟩:=h;obtain⟨c,vs,rfl,ec,hkl,rs⟩:=Bv e1 rd;obtain⟨u,rfl,rx⟩:=vals1 r;cases rx;refine z57 I (zc sF ec) fun t s' I' =>⟨.int ks.length,H,I',⟨t,?_⟩,k _ _ F H (Gr.refl sF) (by unfold Rep;rfl) h⟩
  rw[List.length_zip,<- hkl,Nat.min_self]
 ·exact h.elim
end
section
variable{X:Cx}
theorem Z2(he:PE X e te)(I:Inv X pins σ H s)
  (h0:te σ H Q0) (h:∀v H1,Q0 v H1 ->∃a kvs,v= .ref a/\Rd H1 a (.dK kvs)/\∀(s1:Shared) (ws:List (Key×Value)) (ep:Nat) (r:Addr),Inv X pins σ H1 s1 ->(a==sysModules)=false ->kvs.length<=sizeLine ->KV kvs ws ->s1.heap.DictAt (iB X.prog X.w) a ws ep ->s1.heap.IsValuesView r a ->Q (.ref r) s1)
  (hbase:attributeBase e "values" X.env (eval e X.env)=eval e X.env) (hline:(apos.endLine==cpos.line)=true):
  wpAny (model X.prog X.w) X.A (eval (.Call (.Attribute e "values" apos) [] [] cpos) X.env) Q X.xe s:=by
 refine wpAny_Call_method0_late hbase hline (bD (he pins s σ H _ I h0) fun v s1 hq1=> ?_);obtain⟨x,H1,I1,r1,q0⟩:=hq1;obtain⟨a,kvs,ex,ea,q⟩:=h x H1 q0;subst ex;obtain rfl:v=Value.ref a:=r1;obtain⟨hT,hN,hsm⟩:=Jk I1 (.inl ⟨kvs,ea⟩);refine⟨"dict","dict.values",PySem.F.plainAttrs_dict,PySem.F.slot_dict_values,PySem.F.type_dict_values,hT,hN,Calls.callWith_builtin rfl (PySem.evalArgs_none ?_)⟩;obtain⟨hz,_,ws,kv,dd⟩:=uV I1.hok ea;refine call_meetsIn PySem.F.slot_dict_values hT PySem.F.entry_dict_values (PySem.F.args_dict_values_1 _) (meets_dict_values (iB X.prog X.w) a hsm) ⟨⟨ws,dd⟩,?_⟩;obtain⟨o,es,ep,h1,h2,h3,h4⟩:=id dd;have hm:s1.heap.DictAt (iB X.prog X.w) a ws ep:=⟨o,es,h1,h2,h3,h4⟩;have vw:(s1.heap.push {cls:= .type "dict_values",data:= .fields #[.ref a]}).IsValuesView s1.heap.objs.size a:=⟨_,z9 _ rfl,rfl,rfl⟩;exact q _ ws ep _ (I1.kept fun b o e=>z8 _ e) hsm hz kv (hm.push _) vw
theorem zrg{ks:List Key}{vs:List V}{ws:List (Key×Value)}{acc:Array Value}(hkl:ks.length=vs.length)(kv:KV (ks.zip vs) ws)(h1:acc.size=ws.length)(h2:∀(i:Nat) (u:Value),acc[i]?=some u ->∃k,ws[i]?=some (k,u)):Vals vs acc.toList:=by
 have hl:=kv.length;rw[List.length_zip,<- hkl,Nat.min_self] at hl;refine RN (by rw[show acc.toList.length=acc.size from Array.length_toList];omega) fun i x u e1 e2=> ?_
 obtain⟨k,e3⟩:=h2 i u (by rw[<- Array.getElem?_toList];exact e2)
 obtain⟨v,e4,r⟩:=Bu kv e3;have:=(Gk e4).2;rw[e1] at this;cases this;exact r
theorem zwd{e:Expr}{te:TE}{apos cpos pos p:Pos}(hc:X.calm=true)(hg:Gl X "list")(hm:X.mg "list" =none)(he:PE X e te)(hb:bootBuiltins "list" =some (.type "list"):=by decide+kernel)
  (hbase:attributeBase e "values" X.env (eval e X.env)=eval e X.env:=by rfl) (hline:(apos.endLine==cpos.line)=true:=by rfl)
  (he2:starEach [.Call (.Attribute e "values" apos) [] [] cpos] X.env=(false,eval (.Call (.Attribute e "values" apos) [] [] cpos) X.env)::starEach [] X.env:=by rfl):
  PE X (.Call (.Name "list" p) [.Call (.Attribute e "values" apos) [] [] cpos] [] pos) (fun σ H Q=>te σ H fun v H1=>∃(a:Addr) (ks:List Key) (vs:List V),v= .ref a/\Rd H1 a (.dK (ks.zip vs))/\ks.length=vs.length/\∀q,H1 q=none ->Q (.ref q) (upd H1 q (.lst vs))):=by
 intro pins s σ H Q I h;refine wpAny_Call_Name_kw (vP I hg hm hb ?_ (by decide) (by decide))
 refine PyProof.Rows.callWith_type1 ?_ he2 rfl;rw[he2];show wpAny _ _ (spliced ((false,eval (.Call (.Attribute e "values" apos) [] [] cpos) X.env)::backTo pos (starEach [] X.env))) _ _ _;refine Calls.spliced_cons ?_;refine Z2 he I h (fun v H1 hq=> ?_) hbase hline;obtain⟨a,ks,vs,ev,ea,hkl,q⟩:=hq;refine⟨a,ks.zip vs,ev,ea,fun s1 ws ep r I1 hsm hz kv hd vw=> ?_⟩;refine Calls.spliced_nil ?_;have Gn:=kv.length;refine W.kdl_call (W.kdl_values (knd:=iB X.prog X.w) (kvs:=ws) (ep:=ep)) (I1.ok.hd hc) ⟨vw,hd⟩ (by omega) fun h' tk acc c hold hg hac=> ?_
 have hv:=zrg hkl kv hac.1 hac.2;have Bm:=hv.length;rw[List.length_zip,<- hkl,Nat.min_self] at hz;have I2:Inv X pins σ (upd H1 s1.heap.objs.size (.lst vs)) {s1 with heap:=h',toks:=tk}:=
  I1.laid (t' :=tk) hold (zO _) (show bw X.prog X.w _ _ _ (.lst vs) from ⟨by omega,_,c,hv,by rw[Array.toArray_toList];exact hg⟩)
 exact⟨.ref s1.heap.objs.size,_,I2,rfl,q _ (I1.hok.fresh (zO _))⟩
theorem z1e(hc:X.calm=true)(hg:Gl X "sum")(hm:X.mg "sum" =none)(he:PE X e te)(hb:bootBuiltins "sum" =some (.builtin "sum"):=by decide+kernel)
  (hbase:attributeBase e "values" X.env (eval e X.env)=eval e X.env:=by rfl) (hline:(apos.endLine==cpos.line)=true:=by rfl)
  (he2:starEach [.Call (.Attribute e "values" apos) [] [] cpos] X.env=(false,eval (.Call (.Attribute e "values" apos) [] [] cpos) X.env)::starEach [] X.env:=by rfl):
  PE X (.Call (.Name "sum" p) [.Call (.Attribute e "values" apos) [] [] cpos] [] pos) (fun σ H Q=>te σ H fun v H1=>∃(a:Addr) (ks:List Key) (ns:List Int),v= .ref a/\Rd H1 a (.dK (ks.zip (ns.map .int)))/\ks.length=ns.length/\Q (.int ns.sum) H1):=by
 intro pins s σ H Q I h;refine wpAny_Call_Name_kw (vP I hg hm hb ?_ (by decide) (by decide))
 refine PyProof.Rows.callWith_builtin1 ?_ he2 rfl;rw[he2];show wpAny _ _ (spliced ((false,eval (.Call (.Attribute e "values" apos) [] [] cpos) X.env)::backTo pos (starEach [] X.env))) _ _ _;refine Calls.spliced_cons ?_;refine Z2 he I h (fun v H1 hq=> ?_) hbase hline;obtain⟨a,ks,ns,ev,ea,hkl,q⟩:=hq;refine⟨a,ks.zip (ns.map .int),ev,ea,fun s1 ws ep r I1 hsm hz kv hd vw=> ?_⟩;refine Calls.spliced_nil ?_;have Gn:=kv.length;have hlk:ws.length=ns.length:=by rw[<- Gn,List.length_zip,List.length_map,<- hkl,Nat.min_self]
 have K:=W.kdl_values (prog:=X.prog) (w:=X.w) (r:=r) (d:=a) (knd:=iB X.prog X.w) (kvs:=ws) (ep:=ep);refine call_sum_walkAnyS ?_;obtain⟨oI,St,hit,W,st⟩:=K.iter X.A.in1 s1 (I1.ok.hd hc) ⟨vw,hd⟩;refine hit _ _ ⟨s1.heap.objs.size,_,_,_,_,_,_,fun i=>ns.getD i 0,rfl,W.toS,st,fun b hb=> ?_,fun i u hu=> ?_,fun s' t' hm' => ?_⟩
 ·show b< (s1.heap.push oI).objs.size;rw[Heap.size_push];rcases zV.mp hb with e | hb
  ·rw[e];exact Nat.lt_succ_self _
  ·rw[List.mem_singleton.mp hb];exact Nat.lt_succ_of_lt (K.there _ ⟨vw,hd⟩).2
 ·obtain⟨k,e3⟩:=hu;obtain⟨v,e4,rv⟩:=Bu kv e3;have e5:=(Gk e4).2;rw[List.getElem?_map] at e5;cases en:ns[i]? with
  | none=>rw[en] at e5;cases e5
  | some n=>
   rw[en] at e5;cases e5;show∃t,u=Value.int (ns.getD i 0) t;rw[List.getD_eq_getElem?_getD,en];exact rv
 ·have hk:∀b o,s1.heap.get? b=some o ->s'.heap.get? b=some o:=fun b o e=>
   hm'.heap b o (fun hI=>absurd (zJ e) (by rw[List.mem_singleton.mp hI];exact yX _)) (z8 _ e)
  rw[hlk,XM ns _ (fun i _=>rfl),Moved.eq_with hm'];exact Qq (s:=s1) (v:= .int ns.sum) I1 hk ⟨_,rfl⟩ q
end
def tu(te:aG):aZ:=fun Γ P E=>te Γ (fun d Γ1=>∃ks xs,vC d=some (ks,xs)/\P xs Γ1) E
def wC(te:aG):aG:=fun Γ P E=>te Γ (fun d Γ1=>∃ks xs ns,vC d=some (ks,xs)/\fV xs=some ns/\P (.int ns.sum) Γ1) E
section
variable{X:Cx}{F0 H0:Hp}{e:Expr}{apos cpos pos p:Pos}{te:aG}
theorem zw5(hc:X.calm=true)(hg:Gl X "list")(hm:X.mg "list" =none)(he:QE X F0 H0 e te)
  (hbase:attributeBase e "values" X.env (eval e X.env)=eval e X.env:=by rfl) (hline:(apos.endLine==cpos.line)=true:=by rfl)
  (he2:starEach [.Call (.Attribute e "values" apos) [] [] cpos] X.env=(false,eval (.Call (.Attribute e "values" apos) [] [] cpos) X.env)::starEach [] X.env:=by rfl):
  QF X F0 H0 (.Call (.Name "list" p) [.Call (.Attribute e "values" apos) [] [] cpos] [] pos) (tu te):=fun z E cx=>
 jg (zwd (X:=X.wsh z) hc hg hm (he z E cx) (by decide+kernel) hbase hline he2) fun σ H Q pB=>by
 obtain⟨F,Γ,P,R,h,k⟩:=pB;refine⟨F,Γ,_,R,h,fun d Γ1 F1 H1 v R1 s1 r1 h1=> ?_⟩;obtain⟨ks,xs,e1,h1⟩:=h1;obtain⟨c,vs,rfl,ec,hkl,rs⟩:=Bv e1 r1;refine⟨c,ks,vs,rfl,zc R1.g ec,hkl,fun q hq0=> ?_⟩;obtain⟨R2,q1,q2,q3,ap⟩:=yd R1 hq0 rs;exact k _ Γ1 F1 _ q _ R2 s1 q1 q2 q3 rs ap h1
theorem z05(hc:X.calm=true)(hg:Gl X "sum")(hm:X.mg "sum" =none)(he:QE X F0 H0 e te)
  (hbase:attributeBase e "values" X.env (eval e X.env)=eval e X.env:=by rfl) (hline:(apos.endLine==cpos.line)=true:=by rfl)
  (he2:starEach [.Call (.Attribute e "values" apos) [] [] cpos] X.env=(false,eval (.Call (.Attribute e "values" apos) [] [] cpos) X.env)::starEach [] X.env:=by rfl):
  QE X F0 H0 (.Call (.Name "sum" p) [.Call (.Attribute e "values" apos) [] [] cpos] [] pos) (wC te):=fun z E cx=>
 jg (z1e (X:=X.wsh z) hc hg hm (he z E cx) (by decide+kernel) hbase hline he2) fun σ H Q pB=>by
 obtain⟨F,Γ,P,R,h,k⟩:=pB;refine⟨F,Γ,_,R,h,fun d Γ1 F1 H1 v R1 s1 r1 h1=> ?_⟩;obtain⟨ks,xs,ns,e1,hns,h1⟩:=h1;obtain⟨c,vs,rfl,ec,hkl,rs⟩:=Bv e1 r1;obtain rfl:=Qs rs hns;exact⟨c,ks,ns,rfl,zc R1.g ec,by rw[hkl,List.length_map],k _ Γ1 F1 H1 _ R1 s1 (by unfold Rep;rfl) h1⟩
end
def Sv(a:Addr)(o:Obj)(kvs:List (Key×V)):It:=⟨fun i H=>H a=some (.frz o (.dK kvs))/\i<kvs.length,fun i H x H' =>H' =H/\∃k v,kvs[i]?=some (k,v)/\x=kV k,fun i H=>H a=some (.frz o (.dK kvs))/\kvs.length<=i⟩
theorem zrt{P:Program}{w:World}{K:W.Frag}{tg:Expr}(a it:Addr)(o:Obj)(kvs:List (Key×V))(ep:Nat)(yQ:∃es,o.data= .dict es ep):Turn P w K tg (Sv a o kvs) [it] it (fun i h=>h.IsKeyIter it a i kvs.length ep) where
 mem:=by simp
 obj:=fun i h st b hb=>by
  obtain rfl:b=it:=by simpa using hb
  obtain⟨o,e,c,d⟩:=st;exact⟨o,e,fun v z=>by rw[d] at z;cases z⟩
 keep:=fun i h h' st k=>st.at fun o e=>k it (by simp) o e
 item:=by
  intro X hP hw hK hc i pins s σ H E I hf st hg;subst hP hw hK;obtain⟨hq,hx⟩:=hg;obtain⟨f0,f1,f2,f3,f4,f5⟩:=hf it (by simp)
  obtain⟨ws,kv,hd⟩:=J8 I hq yQ;have hl:=kv.length;rw[hl] at st hx;obtain⟨⟨k,u⟩,hw⟩:∃p,ws[i]?=some p:=⟨ws[i],by simp [hx]⟩
  obtain⟨v,hv,rv⟩:=Bu kv hw;refine wpAny_pyNext_dict_item st hd hw fun key h' hkey hit' sb=> ?_;have I1:Inv X pins σ H {s with heap:=h'}:=I.turned (t' :=s.toks) (fun b o hb e=>(sb.2 b hb).trans e) f0 f1 f3 f4 f5;obtain⟨o',e,c,d⟩:=id hit';have rk:RelV (kV k) key:=by
   rcases qu hkey with ⟨j,t,rfl,rfl⟩ | ⟨x,t,rfl,rfl⟩
   ·exact⟨t,rfl⟩
   ·exact⟨t,rfl⟩
  exact⟨key,rfl,Dd (s:={s with heap:=h'}) e c d (by decide) ⟨kV k,H,I1,rk,⟨rfl,k,v,hv,rfl⟩,by rw[hl];exact hit',fun b hb=>(hf b hb).1⟩⟩
 done:=by
  intro X hP hw hK hc i pins s σ H E I hf st hg;subst hP hw hK;obtain⟨hq,hx⟩:=hg;obtain⟨f0,f1,f2,f3,f4,f5⟩:=hf it (by simp)
  obtain⟨ws,kv,hd⟩:=J8 I hq yQ;have hl:=kv.length;rw[hl] at st hx;exact wpAny_pyNext_dict_end (I.ok.hd hc) st hd (by simpa using hx) fun h' eb=>⟨rfl,I.turned (t' :=s.toks) (fun b o hb e=>eb b o hb e) f0 f1 f3 f4 f5⟩
 self:=fun _ _ _ _ _ st h=>wpAny_pyIter_keyiter st h
def zf(te:TE):TI:=fun σ H R=>te σ H fun v H1=>∃a o kvs,v= .ref a/\H1 a=some (.frz o (.dK kvs))/\ (kvs.length<=sizeLine ->R (Sv a o kvs) H1)
theorem zws(he:PE X e te):PI X tg e (zf te):=by
 intro pins s σ H R I h;refine bD (he pins s σ H _ I h) fun v s1 hq1=> ?_;obtain⟨x,H1,I1,r1,a,o,kvs,ex,ea,q⟩:=hq1;subst ex;obtain rfl:v=Value.ref a:=r1;obtain⟨ho,hz,hsm,ws,kv,o',es,ep,h1,h2,h3,h4⟩:=(show bw X.prog X.w H1 s1.heap a (.frz o (.dK kvs)) from I1.hok a _ ea);rw[ho] at h1;cases h1;have hm:s1.heap.DictAt (iB X.prog X.w) a ws ep:=⟨o,es,ho,h2,h3,h4⟩;refine wpAny_pyIter_dict hsm hm ?_;refine⟨_,[s1.heap.objs.size],_,_,_,rfl,I1.kept (t' :=s1.toks) fun b o e=>z8 _ e,zrt a _ o kvs ep ⟨es,h3⟩,?_,fun b hb=> ?_,q hz⟩
 ·rw[kv.length];exact⟨_,z9 _ rfl,rfl,rfl⟩
 ·obtain rfl:b=s1.heap.objs.size:=by simpa using hb
  exact I1.fpOk (zO _) (I1.hok.fresh (zO _))
theorem z2y{K:W.Frag}{F:Hp}(k:Key):Rep K F (bO k) (kV k):=by
 cases k with
 | inl i=>unfold bO Rep;rfl
 | inr x=>unfold bO Rep;rfl
theorem zs8{K:W.Frag}{F:Hp}{a:Addr}{o:Obj}{ks:List Key}{vs:List V}(e:F a=some (.frz o (.dK (ks.zip vs))))(hkl:ks.length=vs.length)(hz:(ks.zip vs).length<=sizeLine):v7 K F yu (Sv a o (ks.zip vs)) (ks.map bO):=by
 have hlz:(ks.zip vs).length=ks.length:=by rw[List.length_zip,hkl,Nat.min_self]
 refine⟨by rw[List.length_map];omega,fun i H2 F2 s2 s3 _=>⟨fun q=>⟨s3 _ _ (s2 _ _ e),by rw[q,List.length_map];omega⟩,fun d hd=> ?_⟩⟩
 rw[List.getElem?_map] at hd;cases qk:ks[i]? with
 | none=>rw[qk] at hd;cases hd
 | some kk=>
  rw[qk] at hd;cases hd;have hik:i<ks.length:=(zW.mp qk).1;refine⟨⟨s3 _ _ (s2 _ _ e),by omega⟩,fun y H' z=> ?_⟩
  obtain⟨rfl,k,v,z,rfl⟩:=z;have:=(Gk z).1;rw[qk] at this;cases this;exact⟨F2,Gr.refl s3,z2y kk⟩
def Z4(te:aG):aZ:=fun Γ P E=>te Γ (fun d Γ1=>match d with | .nO ks _=>P (ks.map bO) Γ1 | _=>False) E
section
variable{X:Cx}{F0 H0:Hp}{e tg:Expr}{te:aG}
theorem zz9(he:QE X F0 H0 e te):QI X F0 H0 tg e (Z4 te):=fun z E cx=>Az (zws (X:=X.wsh z) (he z E cx)) fun σ H R hq2=>by
 obtain⟨F,Γ,P,S,q,k⟩:=hq2;refine⟨F,Γ,_,S,q,fun d Γ1 F1 H1 v R1 s1 r h1=> ?_⟩;split at h1
 ·unfold Rep at r;obtain⟨a,o,vs,rfl,ea,hkl,rs⟩:=r;exact⟨a,o,_,rfl,R1.g _ _ ea,fun hz=>k _ Γ1 F1 H1 _ R1 s1 (zs8 ea hkl hz) h1⟩
 ·exact h1.elim
end
def wD(tn:jj):aG:=fun Γ P E=>tn Γ (fun t Γ1=>match t with | .dic ks ts=>P (.nO ks (eO ts)) Γ1 | _=>False) E
def Sw(i:Nat)(t:au):au:=fun D Γ E=>∃as ks ts,Γ[i]?=some (.tr as (.dic ks ts))/\t D (Γ.set i (.pu (.nO ks (eO ts)))) E
section
variable{K:W.Frag}{F0 H0 F H:Hp}{σ:St}{Γ:List Slot}
open Classical in
theorem SR.nail(R:SR K F0 H0 F H σ Γ)(nd:(a::bs).Nodup)(hn:∀b∈a::bs,F b=none/\H0 b=none/\Apart σ Γ b)(ea:H a=some (.dK (ks.zip vs)))(hkl:ks.length=vs.length)(r:cJ K F H ts vs bs):
  ∃F',Same F F' /\SR K F0 H0 F' (L2.upd H a (.frz o (.dK (ks.zip vs)))) σ Γ/\Rep K F' (.nO ks (eO ts)) (.ref a):=by
 have nab:a∉bs:=(List.nodup_cons.mp nd).1;have sF:Same F (fun b=>if b=a then some (.frz o (.dK (ks.zip vs))) else if b∈bs then H b else F b):=fun b u e=>by
  show(if b=a then some (.frz o (.dK (ks.zip vs))) else if b∈bs then H b else F b)=some u;rw[if_neg (fun z=>by rw[z,(hn a List.mem_cons_self).1] at e;cases e),if_neg (fun hb=>by rw[(hn b (List.mem_cons_of_mem _ hb)).1] at e;cases e)]
  exact e
 refine⟨_,sF,(R.chg (u:= .frz o (.dK (ks.zip vs))) (hn a zY).1 (hn a zY).2.1 (hn a zY).2.2).frzM sF (fun b u e=> ?_) (fun b u e n=> ?_),?_⟩
 ·have e' :(if b=a then some (.frz o (.dK (ks.zip vs))) else if b∈bs then H b else F b)=some u:=e;by_cases hb:b=a
  ·subst hb;rw[if_pos rfl] at e';rw[jL];exact e'
  ·rw[if_neg hb] at e';rw[cQ hb];split at e'
   ·exact e'
   ·exact R.g b u e'
 ·have e' :(if b=a then some (.frz o (.dK (ks.zip vs))) else if b∈bs then H b else F b)=some u:=e;by_cases hb:b=a
  ·subst hb;exact(hn b zY).2
  ·rw[if_neg hb] at e';split at e'
   ·rename_i hm;exact(hn b (zX _ hm)).2
   ·rw[n] at e';cases e'
 ·unfold Rep;refine⟨a,o,vs,rfl,if_pos rfl,hkl,cJ.rep sF ts vs bs (fun c hc u hu=> ?_) r⟩;show(if c=a then some (.frz o (.dK (ks.zip vs))) else if c∈bs then H c else F c)=some u;rw[if_neg (show¬c=a from fun z=>nab (z ▸ hc)),if_pos hc];exact hu
end
section
variable{X:Cx}{F0 H0:Hp}{e:Expr}{st:Stmt}{tn:jj}{ts:au}
theorem z13(he:QN X F0 H0 e tn):QE X F0 H0 e (wD tn):=fun z E cx pins s σ H Q I hq=>by
 obtain⟨F,Γ,P,R,h,k⟩:=hq;refine bD (he z E cx pins s σ H (fun v H1=>∃a kvs,v= .ref a/\H1 a=some (.dK kvs)/\∀o,Q (.ref a) (upd H1 a (.frz o (.dK kvs)))) I ⟨F,Γ,_,R,h,fun t Γ1 F1 H1 v as R1 s1 nd hn r h1=> ?_⟩) fun u s1 hq1=> ?_
 ·split at h1
  ·rename_i ks ts;unfold TR at r;obtain⟨a,vs,bs,rfl,rfl,ea,hkl,r⟩:=r;refine⟨a,_,rfl,ea,fun o=> ?_⟩;obtain⟨F',sF,R2,rp⟩:=R1.nail (o:=o) nd hn ea hkl r;exact k _ Γ1 F' _ _ R2 (s1.trans sF) rp h1
  ·exact h1.elim
 ·obtain⟨x,H1,I1,r1,a,kvs,ex,ea,q⟩:=hq1;subst ex;obtain rfl:u=Value.ref a:=r1;obtain⟨_,_,ws,kv,o,es,ep,h1,_⟩:=Ji I1.hok ea;exact⟨.ref a,_,Zn I1 ea h1,rfl,q o⟩
end
def vG(i:Nat)(tk tv:aG):au:=fun D Γ E=>tv Γ (fun d Γ1=>(∃as t,Γ1[i]?=some (.tr as t))/\tk Γ1 (fun kd Γ2=>∃k as ks xs,kd=bO k/\Γ2[i]?=some (.tr as (.dic ks (xs.map .leaf)))/\ks.length<sizeLine/\D.nx (Γ2.set i (.tr as (.dic (dH ks k) ((bQ ks xs k d).map .leaf))))) E) E
section
variable{X:Cx}{F0 H0:Hp}{ke value:Expr}{pos npos pos' :Pos}{x:Str}{i:Nat}{tk tv:aG}
theorem Sx(hu:X.A.units+1<cLine)(hN:X.N[i]?=some x)(hv:mU X.env.scope x)(hk:QE X F0 H0 ke tk)(hval:QE X F0 H0 value tv)(hs:swapsWith value (some (.Subscript (.Name x npos) ke pos')) pos.line X.env=pure false:=by rfl)
  (hd:(x==("__debug__" :Str))=false:=by decide) (hcd:(x==("__classdict__" :Str))=false:=by decide):QS X F0 H0 (.Assign [.Subscript (.Name x npos) ke pos'] value pos) (vG i tk tv):=fun z E cx=>
 lY (Jj (X:=X.wsh z) hu (o7 (X:=X.wsh z) (i:=i) hN hv hd hcd) (hk z E cx) (hval z E cx) hs) fun Dn σ H hq1=>by obtain⟨F,Γ,D2,R,h,k⟩:=hq1;exact⟨F,Γ,_,R,h,fun d Γ1 F1 H1 v R1 s1 rd hq2=>by
  obtain⟨⟨as,t,e0⟩,q⟩:=hq2;obtain⟨o,e1,w,rfl,_⟩:=R1.sl i _ e0;refine⟨w,e1,F1,Γ1,_,R1,q,fun kd Γ2 F2 H2 y R2 s2 rk q2=> ?_⟩;obtain⟨kk,as',ks,xs,rfl,e2,hl,q2⟩:=q2;obtain⟨o,e3,w',rfl,nd,hn,r⟩:=R2.sl i _ e2;rw[e1] at e3;cases e3;unfold TR at r;obtain⟨a,vs,bs,rfl,rfl,ea,hkl,r⟩:=r;obtain⟨rfl,rs⟩:=J4 r;have ev:=uF rk;subst ev;refine⟨a,_,rfl,jZ.k (k:=kk) ea (by rw[List.length_zip,<- hkl,Nat.min_self];exact hl),?_⟩
  rw[Ry hkl];refine k.nx _ _ _ _ (R2.wrT e2 e1 (show dY (Slot.tr [a] (.dic ks (xs.map .leaf))) (some (.ref a)) a from zY) (t:= .tr [a] (.dic (dH ks kk) ((bQ ks xs kk d).map .leaf))) ⟨_,rfl,nd,hn,?_⟩ fun b hb=> .inl hb) (s1.trans s2) q2;unfold TR;exact⟨a,_,[],rfl,rfl,jL,Y0 hkl,Gb (Y5 rs (rd.up s2))⟩⟩
end
def z5m:List D ->(List D ->Prop) ->Prop:=fun ds P=>match ds with
 | [d]=>∃xs:List Str,∃ys,vC d=some (xs.map .inr,ys)/\xs.Nodup/\xs.length<64/\∀ms:List Str,ms.Perm xs ->ms.Pairwise (fun a b=>iI a b=true) ->P (ms.map .str)
 | _=>False
def Sy(X:Cx):List V ->Hp ->VK ->Prop:=fun vs H Q=>∃(q:Addr) (kvs:List (Key×V)) (xs:List Str),vs= [.ref q]/\Rd H q (.dK kvs)/\kvs.map (·.1)=xs.map .inr/\xs.Nodup/\xs.length<64/\
 ∀(l:Addr) (ms:List Str),H l=none ->ms.Perm xs ->ms.Pairwise (fun a b=>iI a b=true) ->Q (.ref l) (upd H l (.lst (ms.map .str)))
section
variable{X:Cx}{F0 H0:Hp}{a:Expr}{pos p:Pos}{t:aZ}
end
theorem hu1(h:n+21<cLine):n+1<cLine:=zM (Nat.add_le_add_left (show 1<=21 by decide) _) h
theorem qv(i:Nat)(hN:X.N[i]?=some x:=by exact rfl)(hv:mU X.env.scope x:=by first | exact Or.inl rfl | exact Or.inr (Or.inl rfl) | exact Or.inr (Or.inr rfl))(hd:(x==("__debug__" :Str))=false:=by decide)(hcd:(x==("__classdict__" :Str))=false:=by decide):QE X F0 H0 (.Name x pos) (cV i):=z4a hN hv hd hcd
end L3
namespace Hd
open PySem PySem.W PySem.Calls PyProof.Rows
def cut(h:Heap)(n:Nat):Frag:=(List.range n).filterMap fun a=>(h.get? a).map fun o=>(a,o)
theorem zxc{h:Heap}:∀{l:List Nat} {a:Addr} {o:Obj},(l.filterMap fun a=>(h.get? a).map fun o=>(a,o)).lookup a=some o ->h.get? a=some o:=by
 intro l;induction l with
 | nil=>intro a o e;cases e
 | cons b r ih=>
  intro a o e;rw[List.filterMap_cons] at e;cases hb:h.get? b with
  | none=>rw[hb] at e;exact ih e
  | some x=>
   rw[hb] at e;simp only [Option.map_some,List.lookup_cons] at e;split at e
   ·rename_i q;cases e;rw[beq_iff_eq.mp q];exact hb
   ·exact ih e
theorem z4n(h:Heap)(n:Nat):(cut h n).In h:=fun _ _ e=>zxc e
def treeOf:List Obj ->Nat ->BT ->BT
 | [],_,t=>t
 | o::r,i,t=>treeOf r (i+1) (t.ins i o)
abbrev ann:Option Value:=some (.ref 6)
abbrev z:Pos:=⟨0,0,0,0⟩
def env(p:Program):Env:={scope:=p.main.scope,locals:=mainNs,globals:=mainNs,cells:= [],code:= .ref 13,frame:=some 14}
def cB(p:Program):Code:= .body (behindTheImports p) (env p)
noncomputable section
def S0(w:World)(os:OsState):Shared:=⟨boot_heap w.params,Array.mk [],boot_drawn,boot_toks,os⟩
def Sa(x:Option (Shared×Thread))(w:World)(os:OsState):Shared:=match x with | some y=>y.1 | none=>S0 w os
def Ta(s:Shared):SharedT:=⟨treeOf s.heap.objs.toList 0 .nil,15,s.heap.life,s.gens,s.drawn,s.toks,s.os⟩
abbrev TB:=String ->Option Builtin
abbrev Z5:=TB ->Program ->World ->Nat ->Option Value ->Nat ->Shared ->Thread ->Option (Shared×Thread)
abbrev SJ:=TB ->Program ->World ->Nat ->Option Value ->Nat ->Nat ->SharedT ->Thread ->Option (Flow×SharedT×Code×Pos)
abbrev SM:=TB ->Program ->World ->Nat ->Option Value ->Nat ->Shared ->Thread ->Option Shared
def fore(tb:TB)(GO:Z5)(p:Program)(w:World)(os:OsState):Shared:=Sa (GO tb p w 11 ann 12 (S0 w os) (topStub p)) w os
def shot{α:Type}(tb:TB)(GO:Z5)(RUN:SJ)(TOP:SM)(EXS:List Stmt ->Env ->Sem Flow)(p:Program)(obs:Shared ->α)(w:World)(os:OsState):Option ((Flow×Code)×α):=
 (RUN tb p w 11 ann 1 30000 (Ta (fore tb GO p w os)) ⟨(EXS (behindTheImports p) (env p)).wrap doneF deadEnd id id,cB p,z,[topFrame z]⟩).bind fun x=>
  (TOP tb p w 11 ann 2 x.2.1.abs ⟨doneF .next,x.2.2.1,x.2.2.2,[topFrame z]⟩).map fun s=>((x.1,x.2.2.1),obs s)
def rest{α:Type}(SEEN:Program ->List Str ->List Str ->(Shared ->Bool) ->Bool ->Shared ->α)(p q:Program)(loose:List Str)(Xt:Shared ->Bool){β:Type}(obs:Frag ->β)(n:Nat)(w:World)(s:Shared):Bool×α×β:=
 (staticsOk (importedModules p.main.body) (boot_heap w.params) s.heap&&namesBound p s.heap&&gensDone s&&laidKept (boot_heap w.params) s.heap,SEEN q loose (importedModules p.main.body) Xt true s,obs (cut s.heap n))
theorem size(w:World):((boot_heap w.params).isNs mainGlobals&&(Array.mk []:Array GenState).size==0,(boot_heap w.params).objs.size,(boot_heap w.params).nsMap mainGlobals "__annotations__")=(true,11,ann):=by kernel_rfl
theorem left
  (e:opening p=plainProg p.main.scope.names) (f:∀s,fenceModules? p s=some s)
  (hA:∀w os,topGo treeTable p w 11 ann 12 (S0 w os) (topStub p)=some (fore treeTable topGo p w os,⟨denote treeTable (cB p),cB p,z,[topFrame z]⟩))
  (hB:∀w os,segRun treeTable p w 11 ann 1 1 (fore treeTable topGo p w os) (blockOf (behindTheImports p) (env p) (cB p) z [topFrame z])=some (.next,fore treeTable topGo p w os,cB p,z))
  (hC:∀w os,(Ta (fore treeTable topGo p w os)).abs=fore treeTable topGo p w os)
  (hD:∀w os,shot treeTable topGo segRunT topRun execs p (rest openSeen p q loose Xt obs n w) w os=some ((.next,cB p),(true,openGood q loose,good))):
  LeftO p q loose Xt (fun s=>obs (cut s.heap n)) (fun _=>good) 40000:=fun w=>by
 obtain⟨⟨h,gs,d,k,os⟩,e1,e2⟩:=zG.mp (boot_open (N:=40000) e (by decide) f w)
 obtain⟨rfl,rfl,rfl,rfl⟩:h=boot_heap w.params/\gs=Array.mk []/\d=boot_drawn/\k=boot_toks:=by simpa using e2
 obtain⟨z1,z2,z3⟩:_/\_/\_:=by simpa only [Prod.mk.injEq] using size w
 obtain⟨⟨fl,S,c,ps⟩,r1,r2⟩:=Option.bind_eq_some_iff.mp (hD w os);obtain⟨s,t1,t2⟩:=zG.mp r2;obtain⟨u1,u2⟩:=Prod.mk.inj t2;obtain⟨v1,v2⟩:=Prod.mk.inj u1;obtain⟨y1,y2⟩:=Prod.mk.inj u2;obtain⟨y3,y4⟩:=Prod.mk.inj y2;dsimp only at v1 v2 t1;subst v1 v2;have g1:topRun treeTable p w 11 ann (30000+2) (fore treeTable topGo p w os) (restOf (behindTheImports p++ []) (env p) (cB p) z [topFrame z])=some s:=
  piece_app (by have:=segRun_of r1;rw[hC w os] at this;exact this) (piece_nil t1)
 rw[List.append_nil] at g1;have g2:=go_top (hA w os) (piece_block (hB w os) g1);have g3:=topRun_mono (40000 - (12+ (1+ (30000+2)))) _ _ _ _ g2;unfold openEnds;rw[e1];show(topFrom treeTable p w 40000 (S0 w os)).map _=_;unfold topFrom S0;dsimp only;rw[z1,z2,z3];have g4:topRun treeTable p w 11 ann 40000 ⟨boot_heap w.params,Array.mk [],boot_drawn,boot_toks,os⟩ (topStub p)=some s:=g3;rw[g4];show(match staticsOk (importedModules p.main.body) (boot_heap w.params) s.heap&&namesBound p s.heap&&gensDone s&&laidKept (boot_heap w.params) s.heap with | true=>some s | false=>none).map _=_
 rw[y1];show some (openSeen q loose (importedModules p.main.body) Xt true s,obs (cut s.heap n))=_;rw[y3,y4]
end
open L2 L3
def adr(x:Option (Option Value)):Addr:=match x with | some (some (.ref f))=>f | _=>0
def isRef(x:Option (Option Value)):Bool:=match x with | some (some (.ref _))=>true | _=>false
theorem adr_of(h:isRef x=true):x=some (some (.ref (adr x))):=by
 unfold isRef at h;split at h
 ·rfl
 ·cases h
theorem aT [Decidable p](h:(decide p&&b)=true):p/\b=true:=⟨of_decide_eq_true (Bool.and_eq_true_iff.mp h).1,(Bool.and_eq_true_iff.mp h).2⟩
def bare(fd:FuncData):FuncData:={fd with kwdefaults:= .none,doc:= .none,pyModule:= .none,annotations:=none,code:= .none,closureTuple:= .none}
def Bw(K:Frag)(f:Addr)(qual:Str):Option FuncData:=match K.lookup f with
 | some ⟨_,_,.func fd,_⟩=>(match codeIn K fd.code qual&&keepIn K (.ref f) with | true=>some (bare fd) | false=>none)
 | _=>none
def SN(K:Frag)(v:Value):Bool:=match v with
 | .ref T=>(match K.lookup T with | some ⟨.type t,_,.seq xs _,_⟩=>t== "tuple" &&(match xs.toList with | [.none]=>true | _=>false) | _=>false)
 | _=>false
def fnD(K:Frag)(f:Addr)(qual:Str):Option FuncData:=(Bw K f qual).bind fun fd=>match SN K fd.defaults with | true=>some {fd with defaults:= .none} | false=>none
theorem zs6{K:Frag}{f:Addr}{qual:Str}{g:FuncData}(h:Bw K f qual=some g):∃oc od fd sl,K.lookup f=some ⟨oc,od,.func fd,sl⟩/\codeIn K fd.code qual=true/\keepIn K (.ref f)=true/\bare fd=g:=by
 unfold Bw at h;split at h
 ·rename_i oc od fd sl e;split at h
  ·rename_i q;obtain⟨q1,q2⟩:=Bool.and_eq_true_iff.mp q;exact⟨oc,od,fd,sl,e,q1,q2,zH h⟩
  ·cases h
 ·cases h
theorem z0v{fd:FuncData}{x qual:Str}{st:Stmt}{dV:Value}(h:bare fd=fnOf x qual (uX st) (rJ st) (bU st) dV .none .none .none none .none .none):
  fd=fnOf x qual (uX st) (rJ st) (bU st) dV fd.kwdefaults fd.doc fd.pyModule fd.annotations fd.code fd.closureTuple:=by
 obtain⟨⟩:=fd;unfold bare at h;dsimp only at h⊢;injection h with h1 h2 h3 h4 h5 h6 h7 h8 h9 _ _ _ _ _ h10;subst h1 h2 h3 h4 h5 h6 h7 h8 h10
 rfl
theorem z4w{K:Frag}{f:Addr}{x qual:Str}{st:Stmt}(h:Bw K f qual=some (fnOf x qual (uX st) (rJ st) (bU st) .none .none .none .none none .none .none)):∃fd,fM K x qual st f fd:=by
 obtain⟨oc,od,fd,sl,e,c,k,b⟩:=zs6 h;exact⟨fd,⟨⟨oc,od,_,_,_,_,_,_,sl,z0v b,e,c⟩,k⟩⟩
def GF(K:Frag)(x:Str):Option FuncData:=match nsIn K mainGlobals x with | some (some (.ref f))=>Bw K f x | _=>none
def fnM(K:Frag)(x:Str):Option FuncData:=match nsIn K mainGlobals x with | some (some (.ref f))=>fnD K f x | _=>none
theorem zsg{K:Frag}{x:Str}{g:FuncData}(h:GF K x=some g):∃f,nsIn K mainGlobals x=some (some (.ref f))/\Bw K f x=some g:=by
 unfold GF at h;split at h
 ·rename_i e;exact⟨_,e,h⟩
 ·cases h
abbrev ex(x qual:Str)(st:Stmt):Option FuncData:=some (fnOf x qual (uX st) (rJ st) (bU st) .none .none .none .none none .none .none)
theorem fun_at{K:Frag}{x:Str}{st:Stmt}(h:GF K x=ex x x st):∃f fd,nsIn K mainGlobals x=some (some (.ref f))/\fM K x x st f fd:=
 let ⟨f,e,h⟩:=zsg h;let ⟨fd,F⟩:=z4w h;⟨f,fd,e,F⟩
abbrev d(x:Str)(s:Stmt):Str×Stmt:=(x,s)
def seen(K:Frag)(ds:List (Str×Stmt)):List (Option FuncData):=ds.map fun d=>GF K d.1
def due(ds:List (Str×Stmt)):List (Option FuncData):=ds.map fun d=>ex d.1 d.1 d.2
theorem seen_cons{K:Frag}{d:Str×Stmt}{ds:List (Str×Stmt)}(h:seen K (d::ds)=due (d::ds)):GF K d.1=ex d.1 d.1 d.2/\seen K ds=due ds:=List.cons.inj h
def recOf(s:Stmt):DefRec:=match s with
 | .FunctionDef n a b _ _ _ sc _ _ ps=>⟨n,a,b,sc,ps⟩
 | _=>⟨Str.empty,uX s,[],bU s,z⟩
def abn(x:Option (Option Value)):Option Int:=match x with | some (some (.int i _))=>some i | _=>none
def pH:List Value ->Option (List (Sum Int Str))
 | []=>some []
 | .int i _::r=>(pH r).map (.inl i:: ·)
 | .str x _::r=>(pH r).map (.inr x:: ·)
 | _=>none
def abo(K:Frag)(a:Addr):Option (List (Sum Int Str)):=match K.lookup a with
 | some ⟨.type t,_,.seq xs _,_⟩=>if t= "tuple" then pH xs.toList else none
 | _=>none
def Z6:Sum Int Str ->D
 | .inl i=> .int i
 | .inr x=> .str x
theorem walk_ex{l:OpenLaw}{n k:Nat}{q:Program}{loose:List Str}{XP:(Str ->Option Value) ->Heap ->Prop}{YP:World ->Heap ->Prop}{d:DefRec}{Fx:Frag ->Prop}{CX:World ->qy}{sp:Frag ->Sp}{x:Str}
  (hn:l.most=some n) (hn2:n<=sizeLine) (hdf:d.params.defaults= []) (hr:eN k callerA)
  (hY:∀(w:World) (h:Heap),YP w h ->∃K:Frag,K.In h/\Fx K)
  (F:∀(w:World) (K:Frag) (mg:Str ->Option Value) (fa:Addr) (h:Heap),Fx K ->K.In h ->h.Ns mainGlobals mg ->mg d.name=some (.ref fa) ->
   ∃fd:FuncData,(∀(s:Shared) (u:Value),BindsTo s fd ⟨[u],[]⟩ [(x,u)])/\∀b:Heap,K.In b ->b.Ns mainGlobals mg ->dX l.prog w K mg b (CX w) k fa fd [x] (sp K))
  (hsp:∀(K:Frag) (H:Hp) (a:Addr) (ns:List Int),ns.length<=n ->Only H ->fL K H a (ns.map V.int) ->sp K [.ref a] H (fun v _=>v= .bl true) fun _ _ _=>False)
  (N8:∀(w:World) (H:Hp) (s:Shared) (e:Value) (s' :Shared),CX w [] H s (fun _ _ _=>False) e s' ->False):
  WalkO q loose XP YP l.row.toRowW d [] (fun f vs=>PySem.call f vs):=by
 refine Wv.nM hn hdf fun w s₀ s₁ mg mb fa o pm cd doc a vs ns G Y ho hd hcd hmg hobj hints hlen hg=> ?_;obtain⟨K,KX,fx⟩:=hY w _ Y;obtain⟨fd,hb,hF⟩:=F w K mg fa _ fx KX G.T.g hmg;exact zyq KX G.T.g G.T.b G.T.builtins G.T.nolimit hg hobj hints (zP hlen hn2) hr hF hb (fun H hO hS=>hsp K H a ns hlen hO hS) fun H e s' =>N8 w H s₁ e s'
theorem start_binds{K:Frag}{fd:FuncData}{x:Str}{st:Stmt}{f:Addr}(F:fM K "law" "law" st f fd)
  (h:∀(kV doc pm:Value) (an:Option Addr) (cdv ct:Value) (u:Value),bindArgs (fnOf "law" "law" (uX st) (rJ st) (bU st) .none kV doc pm an cdv ct) ⟨[u],[]⟩=pure [(x,u)]) (s:Shared) (u:Value):BindsTo s fd ⟨[u],[]⟩ [(x,u)]:=by
 obtain⟨oc,od,kV,doc,pm,an,cdv,ct,osl,rfl,lk,hcd⟩:=F.ex;exact .of_eq (h kV doc pm an cdv ct u)
theorem holds{l:OpenLaw}{q:Program}{loose:List Str}{β:Type}{obs:Frag ->β}{good:β}{n:Nat}{d:DefRec}(said:l.wellSaid=true)
  (L:LeftO l.row.prog q loose (fun _=>true) (fun s=>obs (cut s.heap n)) (fun _=>good) 40000)
  (hd:defOf q l.row.name=some (d,[])) (hp:l.row.prog.theDef l.row.name=some (d.params,d.body,d.scope)) (hk:kwWritten? d.params.kwonlyargs d.params.kw_defaults=some [])
  (ok:(chainsOk q&&opensWell l.row.prog&&(frees l.row.toRowW&&l.row.within.isEmpty))=true) (hb:l.row.prog.bare) (hw:l.row.toRowW.promised) (wr:l.row.writes=false)
  (walk:WalkO q loose (fun _ _=>True) (fun _ h=>∃K:Frag,K.In h/\obs K=good) l.row.toRowW d [] (fun f vs=>PySem.call f vs)):l.Holds:=
 holds_law said fun k1=>holds_open (XP:=fun _ _=>True) (YP:=fun _ h=>∃K:Frag,K.In h/\obs K=good) L (fun _ s e=>⟨_,z4n s.heap n,e⟩) (fun _ _ _ ⟨K,x,e⟩ k=>⟨K,x.keeps k,e⟩)
  (fun _ _=>trivial) (fun _ _ _ _ _=>trivial) hd hp hk (fun s _=>recFacts_of rfl) (by rw[wr];rfl) k1 ok hb hw walk
end Hd
namespace L3
open PySem PySem.Spec PyProof.Rows L2
section
variable{X:Cx}{F0 H0:Hp}
def wF(j:Nat)(t1 t2:aZ)(tb:au):au:=fun Dn Γ E=>t1 Γ (fun SQ Γ1=>SQ.length<=sizeLine/\∃k1:List Key,SQ=k1.map bO/\t2 Γ1 (fun SX Γ2=>SX.length<=sizeLine/\∃k2:List Key,SX=k2.map bO/\
 ∃M:G2 ->Prop,tb {Dn with nx:=M,ct:=M,bk:=Dn.nx} (Γ2.set j (.tr [] (.kt k1))) E/\∀Γ3,M Γ3 ->tb {Dn with nx:=Dn.nx,ct:=Dn.nx,bk:=Dn.nx} (Γ3.set j (.tr [] (.kt k2))) E) E) E
theorem SR.key{K:W.Frag}{F H:Hp}{σ:St}{Γ:G2}{p:Addr}{k:List Key}(R:SR K F0 H0 F H σ Γ)(j:Nat)(e:F p=some (.tup (k.map kV))):SR K F0 H0 F H (σ.set j (some (.ref p))) (Γ.set j (.tr [] (.kt k))):=by
 refine R.put j (s:= .tr [] (.kt k)) (o:=some (.ref p)) ⟨_,rfl,List.nodup_nil,fun b hb=>(by cases hb),?_⟩ fun b hb=>(by cases hb)
 unfold TR;exact⟨rfl,p,rfl,e⟩
theorem z0e{y:Str}{j:Nat}{np p1 p2 lp pos:Pos}{es1 es2:List Expr}{x1 x2}{t1 t2:aZ}{body:List Stmt}{tb:au}(hc:X.calm=true)(ha1:QA X F0 H0 es1 t1)(ha2:QA X F0 H0 es2 t2)(hN:X.N.Nodup)(hi:X.N[j]?=some y)(hx:Loc X.env.scope y)
  (hb:pA X F0 H0 body tb) (hf:X.fn y=true\/X.env.scope.names.lookup y=some .local:=by first | exact .inl rfl | exact .inr rfl)
  (h1:starEach [.Tuple es1 x1 p1,.Tuple es2 x2 p2] X.env=(false,eval (.Tuple es1 x1 p1) X.env)::starEach [.Tuple es2 x2 p2] X.env:=by rfl) (h2:starEach [.Tuple es2 x2 p2] X.env=(false,eval (.Tuple es2 x2 p2) X.env)::starEach [] X.env:=by rfl)
  (hs:∀x,foldedSetIterable (.List [.Tuple es1 x1 p1,.Tuple es2 x2 p2] lp) X.env x=pure x:=by intro _;rfl):
  QS X F0 H0 (.For (.Name y np) (.List [.Tuple es1 x1 p1,.Tuple es2 x2 p2] lp) body [] pos) (wF j t1 t2 tb):=fun z E cx=>
 lY (Dh (X:=X.wsh z) cx.po hc (W5 (V0 (Jf (X:=X.wsh z) (M6 (ha1 z E cx)) (Jf (X:=X.wsh z) (M6 (ha2 z E cx)) MK h2) h1))) (Vz (X:=X.wsh z) (i:=j) hN hi hx hf) (hb z E cx) hs) fun Dn σ H hq=>by
  obtain⟨F,Γ,D2,R,h,k⟩:=hq;refine⟨F,Γ,_,R,h,fun SQ Γ1 F1 H1 vs1 R1 s1 r1 ⟨z1,k1,e1,g1⟩=>⟨by rw[<- fY r1];exact z1,fun q1 hq1=> ?_⟩⟩
  subst e1;have ev1:=Sd r1;subst ev1;have Z7:=Gr.laid (o:=HO.tup (k1.map kV)) R1.g hq1;refine⟨_,Γ1,_,R1.grow Z7,g1,fun SX Γ2 F2 H2 vs2 R2 s2 r2 ⟨z2,k2,e2,M,m1,m2⟩=>⟨by rw[<- fY r2];exact z2,fun q2 hq2=> ?_⟩⟩
  subst e2;have ev2:=Sd r2;subst ev2;have uo:=Gr.laid (o:=HO.tup (k2.map kV)) R2.g hq2;have R3:=R2.grow uo;have f1:L2.upd F2 q2 (HO.tup (k2.map kV)) q1=some (.tup (k1.map kV)):=uo.f _ _ (s2 _ _ jL);refine⟨by show(2:Nat)<=sizeLine;decide,fun q3 qJ=> ?_⟩
  have sy:=Gr.laid (o:=HO.lst [.ref q1,.ref q2]) R3.g qJ;have R4:=R3.grow sy;have Z8 :=sy.f _ _ f1;have Z9 :=sy.f _ _ (jL (H:=F2) (a:=q2) (o:=HO.tup (k2.map kV)));have fl:fL X.K (L2.upd (L2.upd F2 q2 (HO.tup (k2.map kV))) q3 (HO.lst [.ref q1,.ref q2])) q3 [.ref q1,.ref q2]:= .inl (.inl jL);have vH:=s1.trans (Z7.f.trans (s2.trans (uo.f.trans sy.f)));generalize L2.upd (L2.upd F2 q2 (HO.tup (k2.map kV))) q3 (HO.lst [.ref q1,.ref q2])=F4 at R4 Z8 Z9 fl vH;refine⟨q3,rfl,.inl ⟨⟨[.ref q1,.ref q2],R4.g.seq fl⟩,VL (xs:= [.ref q1,.ref q2]) (fun i σ H=>∃F5 Γ5,SR X.K F0 H0 F5 H σ Γ5/\Same F4 F5/\ (match i with | 0=>Γ5=Γ2 | 1=>M Γ5 | _=>D2.nx Γ5))
   ⟨F4,Γ2,R4,.refl _,rfl⟩ (fun i σ H _ ⟨F5,Γ5,R5,s5,_⟩=>R5.g.seq (s5.seq fl)) ?_ ?_⟩⟩
  ·rintro i x σ H hx' ⟨F5,Γ5,R5,s5,hI⟩
   match i,hx',hI with
   | 0,hx',hI=>
    cases hx';obtain rfl:Γ5=Γ2:=hI;refine⟨F5,_,{D2 with nx:=M,ct:=M,bk:=D2.nx},R5.key j (s5 _ _ Z8),m1,⟨fun Γ6 F6 H6 σ6 R6 s6 q=>⟨F6,Γ6,R6,s5.trans s6,q⟩,fun Γ6 F6 H6 σ6 R6 s6 q=>k.nx _ _ _ _ R6 (vH.trans (s5.trans s6)) q,fun Γ6 F6 H6 σ6 R6 s6 q=>⟨F6,Γ6,R6,s5.trans s6,q⟩,k.rt,k.rf,k.rT,k.rm⟩⟩
   | 1,hx',hI=>
    cases hx';exact⟨F5,_,{D2 with nx:=D2.nx,ct:=D2.nx,bk:=D2.nx},R5.key j (s5 _ _ Z9),m2 _ hI,⟨fun Γ6 F6 H6 σ6 R6 s6 q=>⟨F6,Γ6,R6,s5.trans s6,q⟩,fun Γ6 F6 H6 σ6 R6 s6 q=>k.nx _ _ _ _ R6 (vH.trans (s5.trans s6)) q,fun Γ6 F6 H6 σ6 R6 s6 q=>⟨F6,Γ6,R6,s5.trans s6,q⟩,k.rt,k.rf,k.rT,k.rm⟩⟩
   | i+2,hx',_=>cases hx'
  ·rintro σ H ⟨F5,Γ5,R5,s5,hI⟩;exact k.nx _ _ _ _ R5 (vH.trans s5) hI
end
end L3
namespace HM
theorem zpj(a b:Int):Int.gcd b (a.fmod b)=Int.gcd a b:=by
 rw[Int.fmod_def,Int.gcd_sub_mul_left_right,Int.gcd_comm]
theorem S5{a b:Int}(h:b≠0):(a.fmod b).natAbs<b.natAbs:=by
 rw[Int.fmod_eq_emod];have h1:=Int.emod_nonneg a h;have h2:=Int.emod_lt a h;split
 ·omega
 ·rename_i q;have q1:b<0:=by omega
  have q2:a % b≠0:=fun z=>q (.inr (Int.dvd_of_emod_eq_zero z));omega
def dv(t b:Int):Int:=if b<0 then -(Int.gcd t b:Int) else Int.gcd t b
def fr(t b:Int):Int×Int:=(t.fdiv (dv t b),b.fdiv (dv t b))
theorem GJ{t b:Int}(h:b≠0):dv t b≠0:=by
 unfold dv;have:Int.gcd t b≠0:=by
  intro e;exact h (Int.gcd_eq_zero_iff.mp e).2
 split<;>omega
theorem z0l(t b:Int):dv t b∣t:=by
 unfold dv;split
 ·exact Int.neg_dvd.mpr (Int.gcd_dvd_left ..)
 ·exact Int.gcd_dvd_left ..
theorem zs4(t b:Int):dv t b∣b:=by
 unfold dv;split
 ·exact Int.neg_dvd.mpr (Int.gcd_dvd_right ..)
 ·exact Int.gcd_dvd_right ..
theorem wG{a b:Int}(h:b∣a):b*a.fdiv b=a:=by
 rw[Int.fdiv_eq_ediv_of_dvd h];exact Int.mul_ediv_cancel' h
theorem Ka(t b:Int):dv t b* (fr t b).1=t:=wG (z0l t b)
theorem GK(t b:Int):dv t b* (fr t b).2=b:=wG (zs4 t b)
theorem S6{t b:Int}(h:b≠0):0< (fr t b).2:=by
 have e:=GK t b;have n:=GJ (t:=t) h;generalize (fr t b).2=y at*;unfold dv at e n;split at e
 ·rename_i hb;have g0:(0:Int)<Int.gcd t b:=by
   rw[if_pos hb] at n;have:(0:Int)<=Int.gcd t b:=Int.natCast_nonneg _;omega
  rcases Int.lt_or_le 0 y with h | h
  ·exact h
  ·have:0<= -(Int.gcd t b:Int)*y:=by
    rw[Int.neg_mul,<- Int.mul_neg];exact Int.mul_nonneg (by omega) (by omega)
   omega
 ·rename_i hb;have g0:(0:Int)<Int.gcd t b:=by
   rw[if_neg hb] at n;have:(0:Int)<=Int.gcd t b:=Int.natCast_nonneg _;omega
  rcases Int.lt_or_le 0 y with h | h
  ·exact h
  ·have:(Int.gcd t b:Int)*y<=0:=Int.mul_nonpos_of_nonneg_of_nonpos (by omega) h
   omega
theorem S7{t b:Int}(h:b≠0):Int.gcd (fr t b).1 (fr t b).2=1:=by
 have e1:=Ka t b;have e2:=GK t b;have n:=GJ (t:=t) h;have e3:Int.gcd (dv t b* (fr t b).1) (dv t b* (fr t b).2)=(dv t b).natAbs*Int.gcd (fr t b).1 (fr t b).2:=Int.gcd_mul_left ..;rw[e1,e2] at e3;have e4:(dv t b).natAbs=Int.gcd t b:=by
  unfold dv;split<;>simp
 rw[e4] at e3;have g0:Int.gcd t b≠0:=fun z=>h (Int.gcd_eq_zero_iff.mp z).2;exact(Nat.eq_of_mul_eq_mul_left (Nat.pos_of_ne_zero g0) (by rw[Nat.mul_one];exact e3)).symm
theorem S8{t b:Int}:(fr t b).1*b=t* (fr t b).2:=by
 have e1:=Ka t b;have e2:=GK t b
 calc (fr t b).1*b=(fr t b).1* (dv t b* (fr t b).2):=by rw[e2]
  _=(dv t b* (fr t b).1)* (fr t b).2:=by rw[<- Int.mul_assoc,Int.mul_comm (fr t b).1]
  _=t* (fr t b).2:=by rw[e1]
theorem zjj{a b c d:Int}(hb:0<b)(hd:0<d)(h1:Int.gcd a b=1)(h2:Int.gcd c d=1)(h:a*d=c*b):a=c/\b=d:=by
 have bd:b∣d:=by
  have:b∣a*d:=⟨c,by rw[h,Int.mul_comm]⟩
  have z:=Int.dvd_gcd_mul_iff_dvd_mul.mpr this;rw[Int.gcd_comm,h1] at z
  simpa using z
 have db:d∣b:=by
  have:d∣c*b:=⟨a,by rw[<- h,Int.mul_comm]⟩
  have z:=Int.dvd_gcd_mul_iff_dvd_mul.mpr this;rw[Int.gcd_comm,h2] at z
  simpa using z
 have e:b=d:=Int.dvd_antisymm (Int.le_of_lt hb) (Int.le_of_lt hd) bd db;subst e;exact⟨Int.eq_of_mul_eq_mul_right (Int.ne_of_gt hb) h,rfl⟩
theorem z55{t b t' b' :Int}(h:b≠0)(h' :b' ≠0)(e:t*b' =t' *b):fr t b=fr t' b' :=by
 have c1:=S8 (t:=t) (b:=b);have c2:=S8 (t:=t') (b:=b');have p1:=S6 (t:=t) h;have p2:=S6 (t:=t') h';have k:(fr t b).1* (fr t' b').2=(fr t' b').1* (fr t b).2:=by
  generalize (fr t b).1=x at*;generalize (fr t b).2=y at*;generalize (fr t' b').1=x' at*;generalize (fr t' b').2=y' at*
  
  have:(x*y')* (b*b')=(x' *y)* (b*b'):=by
   calc (x*y')* (b*b')=(x*b)* (b' *y'):=by ac_rfl
    _=(t*y)* (b' *y'):=by rw[c1]
    _=(t*b')* (y*y'):=by ac_rfl
    _=(t' *b)* (y*y'):=by rw[e]
    _=(t' *y')* (b*y):=by ac_rfl
    _=(x' *b')* (b*y):=by rw[c2]
    _=(x' *y)* (b*b'):=by ac_rfl
  exact Int.eq_of_mul_eq_mul_right (Int.mul_ne_zero h h') this
 obtain⟨e1,e2⟩:=zjj p1 p2 (S7 h) (S7 h') k;exact Prod.ext e1 e2
theorem z4l{a b:Int}(hb:0<b)(h:Int.gcd a b=1):fr a b=(a,b):=by
 have c1:=S8 (t:=a) (b:=b);obtain⟨e1,e2⟩:=zjj (S6 (t:=a) (Int.ne_of_gt hb)) hb (S7 (Int.ne_of_gt hb)) h (by rw[c1])
 exact Prod.ext e1 e2
theorem zy6{t b:Int}(h:b≠0):(fr t b).1.natAbs<=t.natAbs:=by
 have e:=congrArg Int.natAbs (Ka t b);rw[Int.natAbs_mul] at e;have n:=GJ (t:=t) h;have:1<=(dv t b).natAbs:=by omega
 calc (fr t b).1.natAbs=1* (fr t b).1.natAbs:=by rw[Nat.one_mul]
  _<=(dv t b).natAbs* (fr t b).1.natAbs:=Nat.mul_le_mul_right _ this
  _=t.natAbs:=e
theorem zzw{t b:Int}(h:b≠0):(fr t b).2.natAbs<=b.natAbs:=by
 have e:=congrArg Int.natAbs (GK t b);rw[Int.natAbs_mul] at e;have n:=GJ (t:=t) h;have:1<=(dv t b).natAbs:=by omega
 calc (fr t b).2.natAbs=1* (fr t b).2.natAbs:=by rw[Nat.one_mul]
  _<=(dv t b).natAbs* (fr t b).2.natAbs:=Nat.mul_le_mul_right _ this
  _=b.natAbs:=e
end HM
namespace L3
open PySem L2 HM
def qD(q:Rat):D:= .tup [.int q.num,.int q.den]
theorem z11{t b:Int}(h:b≠0):fr t b=((Rat.divInt t b).num,((Rat.divInt t b).den:Int)):=by
 have hb:(0:Int)< (Rat.divInt t b).den:=by have:=(Rat.divInt t b).den_pos;omega
 have hg:Int.gcd (Rat.divInt t b).num (Rat.divInt t b).den=1:=by
  have:=(Rat.divInt t b).reduced;unfold Nat.Coprime at this
  simpa [Int.gcd] using this
 have e:(Rat.divInt t b).num*b=t* (Rat.divInt t b).den:=by
  have q:=Rat.num_divInt_den (Rat.divInt t b);rw[Rat.divInt_eq_divInt_iff (by omega) h] at q
  exact q
 have:=z55 (t:=t) (b:=b) (t' :=(Rat.divInt t b).num) (b' :=(Rat.divInt t b).den) h (by omega) e.symm
 rw[this,z4l hb hg]
theorem Kc{t b:Int}(h:b≠0):fr t b=(((t:Rat)/ (b:Rat)).num,(((t:Rat)/ (b:Rat)).den:Int)):=by
 rw[z11 h,Rat.divInt_eq_div]
theorem Kd(q:Rat):((q.den:Int):Rat)≠0:=by
 have:=q.den_pos;intro e;have:(q.den:Int)=0:=by exact_mod_cast e
 omega
theorem Ke(q:Rat):(q.num:Rat)/ ((q.den:Int):Rat)=q:=by
 have:=Rat.num_divInt_den q;rw[Rat.divInt_eq_div] at this;exact this
def Sz(n:Nat)(q:Rat):Prop:=aU q.num<=n/\aU (q.den:Int)<=n
theorem z3o{t b:Int}{n:Nat}(h:b≠0)(h1:aU t<=n)(h2:aU b<=n):Sz n ((t:Rat)/ (b:Rat)):=by
 have e:=Kc (t:=t) h;have e1:(fr t b).1=_:=congrArg Prod.fst e;have e2:(fr t b).2=_:=congrArg Prod.snd e;dsimp only at e1 e2;refine⟨zP (rC ?_) h1,zP (rC ?_) h2⟩
 ·rw[<- e1];exact zy6 h
 ·rw[<- e2];exact zzw h
theorem z4o(a b:Rat):a+b=((a.num*b.den+b.num*a.den:Int):Rat)/ ((a.den*b.den:Int):Rat):=by
 have ha:=Kd a;have hb:=Kd b;have h1:=Ke a;have h2:=Ke b;rw[Rat.intCast_add,Rat.intCast_mul,Rat.intCast_mul,Rat.intCast_mul];generalize (a.num:Rat)=x at*;generalize (b.num:Rat)=y at*;generalize ((a.den:Int):Rat)=u at*;generalize ((b.den:Int):Rat)=v at*;subst h1 h2
 grind
theorem z3j(a b:Rat):a - b=((a.num*b.den - b.num*a.den:Int):Rat)/ ((a.den*b.den:Int):Rat):=by
 have ha:=Kd a;have hb:=Kd b;have h1:=Ke a;have h2:=Ke b;rw[Rat.intCast_sub,Rat.intCast_mul,Rat.intCast_mul,Rat.intCast_mul];generalize (a.num:Rat)=x at*;generalize (b.num:Rat)=y at*;generalize ((a.den:Int):Rat)=u at*;generalize ((b.den:Int):Rat)=v at*;subst h1 h2
 grind
theorem zj4(a b:Rat):(a.den*b.den:Int)≠0:=Int.mul_ne_zero (by have:=a.den_pos;omega) (by have:=b.den_pos;omega)
theorem z6b{t b:Int}(h:b≠0):D.tup [.int (fr t b).1,.int (fr t b).2]=qD ((t:Rat)/ (b:Rat)):=by rw[Kc h];rfl
theorem Kf(i:Int):qD (i:Rat)= .tup [.int i,.int 1]:=rfl
theorem zzh{i:Int}{n:Nat}(h:aU i<=n)(hn:1<=n):Sz n (i:Rat):=⟨h,zP (eU (k:=1) (show(1:Nat)<2^1 by decide)) hn⟩
end L3
namespace HM
section
variable{α:Type}[DecidableEq α]
def bx(g hs:List α):Bool:=hs.any fun h=>decide (h∈g)
theorem jw{g hs:List α}:bx g hs=true↔∃x,x∈g/\x∈hs:=by
 unfold bx;rw[List.any_eq_true];exact⟨fun⟨x,h1,h2⟩=>⟨x,of_decide_eq_true h2,h1⟩,fun⟨x,h1,h2⟩=>⟨x,h2,decide_eq_true h1⟩⟩
theorem zs2{g hs:List α}(h:(!bx g hs)=true){x:α}(h1:x∈g):x∉hs:=fun h2=>by
 rw[jw.mpr ⟨x,h1,h2⟩] at h;cases h
structure jx (Ss fs:List (List α)):Prop where
 ne:∀f∈fs,f≠ []
 dj:fs.Pairwise fun a b=>∀x∈a,x∉b
 co:∀x,(∃f∈fs,x∈f)↔∃S∈Ss,x∈S
 sub:∀S∈Ss,∃f∈fs,∀x∈S,x∈f
 min:∀C:α ->Prop,(∀S∈Ss,(∃x∈S,C x) ->∀x∈S,C x) ->∀f∈fs,(∃x∈f,C x) ->∀x∈f,C x
theorem jx.nil:jx ([]:List (List α)) []:=by
 refine⟨?_,List.Pairwise.nil,?_,?_,?_⟩
 ·intro _ h;cases h
 ·intro x;constructor
  ·rintro⟨_,h,_⟩;cases h
  ·rintro⟨_,h,_⟩;cases h
 ·intro _ h;cases h
 ·intro _ _ _ h;cases h
theorem Kg:∀{fs:List (List α)},fs.Pairwise (fun a b=>∀x∈a,x∉b) ->∀{a b:List α} {x:α},a∈fs ->b∈fs ->x∈a ->x∈b ->a=b
 | [],_,_,_,_,ha,_,_,_=>by cases ha
 | f::fs,h,a,b,x,ha,hb,xa,xb=>by
  rw[List.pairwise_cons] at h;rcases zV.mp ha with e1 | ha1
  ·subst e1;rcases zV.mp hb with e | hb
   ·exact e.symm
   ·exact absurd xb (h.1 b hb x xa)
  ·rcases zV.mp hb with e | hb
   ·subst e;exact absurd xa (h.1 a (by assumption) x xb)
   ·exact Kg h.2 (by assumption) hb xa xb
theorem jx.step{Ss fs:List (List α)}{S g:List α}(h:jx Ss fs)(hS:S≠ [])(hg:∀x,x∈g↔x∈S\/∃f∈fs,bx f S=true/\x∈f):
  jx (Ss++ [S]) (fs.filter (fun f=> !bx f S)++ [g]):=by
 have mf:∀f,f∈fs.filter (fun f=> !bx f S)++ [g] ->(f∈fs/\ (!bx f S)=true)\/f=g:=fun f hf=>by
  rcases zU.mp hf with hf | hf
  ·exact .inl (zE.mp hf)
  ·exact .inr (zT.mp hf)
 have mg:g∈fs.filter (fun f=> !bx f S)++ [g]:=zR _ (zT.mpr rfl);have ml:∀f∈fs,(!bx f S)=true ->f∈fs.filter (fun f=> !bx f S)++ [g]:=fun f h1 h2=>zQ _ (zE.mpr ⟨h1,h2⟩);refine⟨fun f hf=> ?_,?_,fun x=>⟨?_,?_⟩,fun T hT=> ?_,fun C hC f hf hx=> ?_⟩
 ·rcases mf f hf with hf | rfl
  ·exact h.ne f hf.1
  ·intro z;cases S with
   | nil=>exact hS rfl
   | cons x S=>
    have:=(hg x).mpr (.inl zY);rw[z] at this;cases this
 ·rw[List.pairwise_append];refine⟨h.dj.filter _,List.pairwise_singleton _ _,fun a ha b hb x xa=> ?_⟩;rw[List.mem_singleton.mp hb];obtain⟨ha,hn⟩:=zE.mp ha;intro xg;rcases(hg x).mp xg with xs | ⟨f,hf,hm,xf⟩
  ·exact zs2 hn xa xs
  ·have:=Kg h.dj ha hf xa xf;subst this;rw[hm] at hn;cases hn
 ·rintro⟨f,hf,xf⟩;rcases mf f hf with hf | rfl
  ·obtain⟨T,hT,xT⟩:=(h.co x).mp ⟨f,hf.1,xf⟩;exact⟨T,zQ _ hT,xT⟩
  ·rcases(hg x).mp xf with xs | ⟨f,hf,_,xf⟩
   ·exact⟨S,zR _ (zT.mpr rfl),xs⟩
   ·obtain⟨T,hT,xT⟩:=(h.co x).mp ⟨f,hf,xf⟩;exact⟨T,zQ _ hT,xT⟩
 ·rintro⟨T,hT,xT⟩;rcases zU.mp hT with hT | hT
  ·obtain⟨f,hf,xf⟩:=(h.co x).mpr ⟨T,hT,xT⟩;cases q:bx f S with
   | true=>exact⟨g,mg,(hg x).mpr (.inr ⟨f,hf,q,xf⟩)⟩
   | false=>exact⟨f,ml f hf (by rw[q];rfl),xf⟩
  ·rw[List.mem_singleton.mp hT] at xT;exact⟨g,mg,(hg x).mpr (.inl xT)⟩
 ·rcases zU.mp hT with hT | hT
  ·obtain⟨f,hf,k⟩:=h.sub T hT;cases q:bx f S with
   | true=>exact⟨g,mg,fun x hx=>(hg x).mpr (.inr ⟨f,hf,q,k x hx⟩)⟩
   | false=>exact⟨f,ml f hf (by rw[q];rfl),k⟩
  ·rw[List.mem_singleton.mp hT];exact⟨g,mg,fun x hx=>(hg x).mpr (.inl hx)⟩
 ·have S9:∀T∈Ss,(∃x∈T,C x) ->∀x∈T,C x:=fun T hT=>hC T (zQ _ hT);have hCS:=hC S (zR _ (zT.mpr rfl));rcases mf f hf with hf | rfl
  ·exact h.min C S9 f hf.1 hx
  ·have all:∀x∈S,C x:=by
    obtain⟨x,xf,cx⟩:=hx;rcases(hg x).mp xf with xs | ⟨f,hf,hm,xf⟩
    ·exact hCS ⟨x,xs,cx⟩
    ·have:=h.min C S9 f hf ⟨x,xf,cx⟩;obtain⟨y,y1,y2⟩:=jw.mp hm;exact hCS ⟨y,y2,this y y1⟩
   intro y hy;rcases(hg y).mp hy with ys | ⟨f,hf,hm,yf⟩
   ·exact all y ys
   ·obtain⟨z,z1,z2⟩:=jw.mp hm;exact h.min C S9 f hf ⟨z,z1,all z z2⟩ y yf
theorem jx.perm{Ss fs gs:List (List α)}(h:jx Ss fs)(p:gs.Perm fs):jx Ss gs:=by
 refine⟨fun f hf=>h.ne f (p.mem_iff.mp hf),?_,fun x=> ?_,fun S hS=> ?_,fun C hC f hf=>h.min C hC f (p.mem_iff.mp hf)⟩
 ·exact(p.pairwise_iff (fun{a b} k x xb xa=>k x xa xb)).mpr h.dj
 ·rw[<- h.co x];exact⟨fun⟨f,hf,k⟩=>⟨f,p.mem_iff.mp hf,k⟩,fun⟨f,hf,k⟩=>⟨f,p.mem_iff.mpr hf,k⟩⟩
 ·obtain⟨f,hf,k⟩:=h.sub S hS;exact⟨f,p.mem_iff.mpr hf,k⟩
inductive Alike:List (List α) ->List (List α) ->Prop
 | nil:Alike [] []
 | cons {f g:List α} {fs gs:List (List α)} (h:∀x,x∈f↔x∈g) (r:Alike fs gs):Alike (f::fs) (g::gs)
theorem wH:∀{l U:List α},l.Nodup ->(∀x∈l,x∈U) ->l.length<=U.length
 | [],U,_,_=>Nat.zero_le _
 | a::l,U,nd,h=>by
  have nd' :=List.nodup_cons.mp nd;have ha:=h a zY;have:=wH (l:=l) (U:=U.erase a) nd'.2 fun x hx=>by
   have ne:x≠a:=fun z=>nd'.1 (z ▸ hx);exact(List.mem_erase_of_ne ne).mpr (h x (zX _ hx))
  rw[List.length_erase_of_mem ha] at this;have:0<U.length:=List.length_pos_of_mem ha;rw[List.length_cons];omega
theorem Kh:∀{fs:List (List α)},fs.Pairwise (fun a b=>∀x∈a,x∉b) ->(∀f∈fs,f.Nodup) ->fs.flatten.Nodup
 | [],_,_=>by simp
 | f::fs,h,k=>by
  rw[List.pairwise_cons] at h;rw[List.flatten_cons,List.nodup_append];refine⟨k f zY,Kh h.2 fun g hg=>k g (zX _ hg),fun a ha b hb e=> ?_⟩;subst e;obtain⟨g,hg,ag⟩:=List.mem_flatten.mp hb;exact h.1 g hg a ha ag
end
def aV(g:Nat ->List Nat ->Rat):List Nat ->Rat
 | []=>0
 | c::cs=>g c cs - aV (fun d ds=>g d (c::ds)) cs
abbrev Row:=Nat ->Rat
def dt:List Row ->List Nat ->Rat
 | [],[]=>1
 | [],_::_=>0
 | r::rs,cs=>aV (fun c ds=>r c*dt rs ds) cs
theorem Tc{g h:Nat ->List Nat ->Rat}:∀{cs:List Nat},(∀c ds,g c ds=h c ds) ->aV g cs=aV h cs
 | [],_=>rfl
 | c::cs,e=>by
  unfold aV;rw[e,Tc (cs:=cs) fun d ds=>e d (c::ds)]
theorem Td{g h:Nat ->List Nat ->Rat}:∀{cs:List Nat},aV (fun c ds=>g c ds+h c ds) cs=aV g cs+aV h cs
 | []=>by unfold aV;grind
 | c::cs=>by
  unfold aV;rw[Td (cs:=cs)]
  grind
theorem GP{g:Nat ->List Nat ->Rat}(k:Rat):∀{cs:List Nat},aV (fun c ds=>k*g c ds) cs=k*aV g cs
 | []=>by unfold aV;grind
 | c::cs=>by
  unfold aV;rw[GP k (cs:=cs)]
  grind
theorem Kl{g:Nat ->List Nat ->Rat}:∀{cs:List Nat},(∀c∈cs,∀ds,g c ds=0) ->aV g cs=0
 | [],_=>rfl
 | c::cs,h=>by
  unfold aV;rw[h c List.mem_cons_self,Kl (cs:=cs) fun d hd ds=>h d (List.mem_cons_of_mem _ hd) _]
  grind
def two(r s:Row)(h:List Nat ->Rat)(cs:List Nat):Rat:=aV (fun c ds=>r c*aV (fun d es=>s d*h es) ds) cs
theorem zqu(r s:Row):∀(cs:List Nat) (h:List Nat ->Rat),two r s h cs= - two s r h cs
 | [],h=>by unfold two aV;grind
 | c::cs,h=>by
  have key:∀r s:Row,two r s h (c::cs)=r c*aV (fun d es=>s d*h es) cs - s c*aV (fun d es=>r d*h es) cs+two r s (fun es=>h (c::es)) cs:=by
   intro r s;show r c*aV (fun d es=>s d*h es) cs - aV (fun x ds=>r x*aV (fun d es=>s d*h es) (c::ds)) cs=_;have e:(fun(x:Nat) (ds:List Nat)=>r x*aV (fun d es=>s d*h es) (c::ds))=fun x ds=>(s c* (r x*h ds))+ (-1)* (r x*aV (fun d es=>s d*h (c::es)) ds):=by
    funext x ds
    show r x* (s c*h ds - aV (fun d es=>s d*h (c::es)) ds)=_
    grind
   rw[e,Td,GP,GP];unfold two
   grind
  rw[key r s,key s r,zqu r s cs]
  grind
theorem zsq(r s:Row)(rs:List Row)(cs:List Nat):dt (r::s::rs) cs= - dt (s::r::rs) cs:=zqu r s cs (dt rs)
theorem half{x:Rat}(h:x= -x):x=0:=by grind
theorem zzi{r:Row}:∀{rs:List Row} {cs:List Nat},r∈rs ->dt (r::rs) cs=0
 | [],_,h=>by cases h
 | s::rs,cs,h=>by
  rcases zV.mp h with e | h
  ·subst e;exact half (zsq r r rs cs)
  ·rw[zsq];have:dt (s::r::rs) cs=0:=Kl fun c _ ds=>by
    show s c*dt (r::rs) ds=0;rw[zzi h];grind
   rw[this];grind
def comb:List Rat ->List Row ->Row
 | k::ks,r::rs=>fun j=>k*r j+comb ks rs j
 | _,_=>fun _=>0
theorem z4m(r s:Row)(k:Rat)(rs:List Row)(cs:List Nat):dt ((fun j=>r j+k*s j)::rs) cs=dt (r::rs) cs+k*dt (s::rs) cs:=by
 show aV (fun c ds=>(r c+k*s c)*dt rs ds) cs=aV (fun c ds=>r c*dt rs ds) cs+k*aV (fun c ds=>s c*dt rs ds) cs;rw[<- GP,<- Td];exact Tc fun c ds=>by grind
theorem GQ{rs:List Row}{cs:List Nat}:∀{ks:List Rat} {ss:List Row} {r:Row},(∀s∈ss,s∈rs) ->dt ((fun j=>r j+comb ks ss j)::rs) cs=dt (r::rs) cs
 | [],ss,r,_=>by
  have:(fun j=>r j+comb [] ss j)=r:=by funext j;unfold comb;grind
  rw[this]
 | k::ks,[],r,_=>by
  have:(fun j=>r j+comb (k::ks) [] j)=r:=by funext j;unfold comb;grind
  rw[this]
 | k::ks,s::ss,r,h=>by
  have e:(fun j=>r j+comb (k::ks) (s::ss) j)=fun j=>(fun j=>r j+comb ks ss j) j+k*s j:=by
   funext j
   show r j+ (k*s j+comb ks ss j)=_
   grind
  rw[e,z4m,GQ (ks:=ks) fun t ht=>h t (List.mem_cons_of_mem _ ht),zzi (h s List.mem_cons_self)]
  grind
theorem Km{r:Row}{rs:List Row}{j:Nat}{cs:List Nat}(h:∀c∈cs,r c=0):dt (r::rs) (j::cs)=r j*dt rs cs:=by
 show r j*dt rs cs - aV (fun d ds=>r d*dt rs (j::ds)) cs=_;rw[Kl fun c hc ds=>by rw[h c hc];grind]
 grind
def GR(f:List Nat ->Rat):Prop:=∀pre c d post,f (pre++c::d::post)= - f (pre++d::c::post)
theorem zl2:∀(pre:List Nat) (g:Nat ->List Nat ->Rat) (c d:Nat) (post:List Nat),(∀x,GR (g x)) ->aV g (pre++c::d::post)= - aV g (pre++d::c::post)
 | [],g,c,d,post,h=>by
  have key:∀c d,aV g (c::d::post)=g c (d::post) - g d (c::post)+aV (fun x es=>g x (c::d::es)) post:=by
   intro c d;show g c (d::post) - (g d (c::post) - aV (fun x es=>g x (c::d::es)) post)=_
   grind
  have e:aV (fun x es=>g x (d::c::es)) post=(-1)*aV (fun x es=>g x (c::d::es)) post:=by
   rw[<- GP];exact Tc fun x es=>by
    have:=h x [] d c es;simp only [List.nil_append] at this;rw[this];grind
  show aV g (c::d::post)= - aV g (d::c::post);rw[key c d,key d c,e]
  grind
 | a::pre,g,c,d,post,h=>by
  show g a (pre++c::d::post) - aV (fun x ds=>g x (a::ds)) (pre++c::d::post)= - (g a (pre++d::c::post) - aV (fun x ds=>g x (a::ds)) (pre++d::c::post));rw[h a pre c d post,zl2 pre (fun x ds=>g x (a::ds)) c d post fun x p c d q=>h x (a::p) c d q]
  grind
theorem Ko:∀rs:List Row,GR (dt rs)
 | []=>fun pre c d post=>by cases pre<;>(unfold dt;grind)
 | r::rs=>fun pre c d post=>zl2 pre _ c d post fun x p a b q=>by
   show r x*dt rs (p++a::b::q)= - (r x*dt rs (p++b::a::q));rw[Ko rs p a b q]
   grind
theorem GX(rs:List Row):∀{post pre:List Nat} {c:Nat},c∈post ->dt rs (pre++c::post)=0
 | [],_,_,h=>by cases h
 | d::post,pre,c,h=>by
  rcases zV.mp h with e | h
  ·subst e;exact half (Ko rs pre c c post)
  ·rw[Ko rs pre c d post];have:=GX rs (pre:=pre++ [d]) h;rw[List.append_assoc] at this;rw[show pre++d::c::post=pre++ ([d]++c::post) from rfl,this];grind
def fB(rs:List Row)(f:Row):Prop:=∃ks:List Rat,ks.length=rs.length/\∀j,f j=comb ks rs j
theorem zqe:∀{ks ls:List Rat} {rs:List Row},ks.length=rs.length ->ls.length=rs.length ->∃ms:List Rat,ms.length=rs.length/\∀j,comb ms rs j=comb ks rs j+comb ls rs j
 | [],[],[],_,_=>⟨[],rfl,fun j=>by unfold comb;grind⟩
 | k::ks,l::ls,r::rs,h1,h2=>by
  obtain⟨ms,h3,h4⟩:=zqe (ks:=ks) (ls:=ls) (rs:=rs) (by simpa using h1) (by simpa using h2)
  refine⟨(k+l)::ms,by simp [h3],fun j=> ?_⟩
  show(k+l)*r j+comb ms rs j=(k*r j+comb ks rs j)+ (l*r j+comb ls rs j);rw[h4];grind
 | [],_,_::_,h,_=>by cases h
 | _::_,_,[],h,_=>by cases h
 | _,[],_::_,_,h=>by cases h
 | _,_::_,[],_,h=>by cases h
theorem zp7(x:Rat):∀{ks:List Rat} {rs:List Row},ks.length=rs.length ->∃ms:List Rat,ms.length=rs.length/\∀j,comb ms rs j=x*comb ks rs j
 | [],[],_=>⟨[],rfl,fun j=>by unfold comb;grind⟩
 | k::ks,r::rs,h1=>by
  obtain⟨ms,h3,h4⟩:=zp7 x (ks:=ks) (rs:=rs) (by simpa using h1)
  refine⟨(x*k)::ms,by simp [h3],fun j=> ?_⟩
  show(x*k)*r j+comb ms rs j=x* (k*r j+comb ks rs j);rw[h4];grind
 | [],_::_,h=>by cases h
 | _::_,[],h=>by cases h
theorem fB.add{rs:List Row}{f g:Row}(h1:fB rs f)(h2:fB rs g):fB rs fun j=>f j+g j:=by
 obtain⟨ks,a,b⟩:=h1;obtain⟨ls,c,d⟩:=h2;obtain⟨ms,e,q⟩:=zqe a c;exact⟨ms,e,fun j=>by show f j+g j=_;rw[q,b,d]⟩
theorem fB.mul{rs:List Row}{f:Row}(x:Rat)(h:fB rs f):fB rs fun j=>x*f j:=by
 obtain⟨ks,a,b⟩:=h;obtain⟨ms,e,q⟩:=zp7 x a;exact⟨ms,e,fun j=>by show x*f j=_;rw[q,b]⟩
theorem Te:∀(rs:List Row),∀j,comb (rs.map fun _=>0) rs j=0
 | [],j=>by unfold List.map comb;rfl
 | r::rs,j=>by
  show 0*r j+comb (rs.map fun _=>0) rs j=0;rw[Te rs j];grind
theorem fB.zero(rs:List Row):fB rs fun _=>0:=⟨rs.map fun _=>0,by simp,fun j=>(Te rs j).symm⟩
theorem fB.cons{rs:List Row}{f:Row}(r:Row)(h:fB rs f):fB (r::rs) f:=by
 obtain⟨ks,a,b⟩:=h;refine⟨0::ks,by simp [a],fun j=> ?_⟩
 show f j=0*r j+comb ks rs j;rw[b];grind
theorem fB.head(r:Row)(rs:List Row):fB (r::rs) r:=by
 refine⟨1::rs.map fun _=>0,by simp,fun j=> ?_⟩
 show r j=1*r j+comb (rs.map fun _=>0) rs j;rw[Te];grind
theorem fB.mem{r:Row}:∀{rs:List Row},r∈rs ->fB rs r
 | s::rs,h=>by
  rcases zV.mp h with e | h
  ·subst e;exact fB.head r rs
  ·exact(fB.mem h).cons s
theorem fB.congr{rs:List Row}{f g:Row}(h:fB rs f)(e:∀j,g j=f j):fB rs g:=by
 obtain⟨ks,a,b⟩:=h;exact⟨ks,a,fun j=>by rw[e,b]⟩
theorem zvs{rs:List Row}:∀{cs:List Nat} {g:Nat ->Nat ->List Nat ->Rat},(∀x ds,fB rs fun j=>g j x ds) ->fB rs fun j=>aV (g j) cs
 | [],g,_=>fB.zero rs
 | c::cs,g,h=>by
  have h1:=h c cs;have h2:=(zvs (cs:=cs) (g:=fun j x ds=>g j x (c::ds)) fun x ds=>h x (c::ds)).mul (-1);exact(h1.add h2).congr fun j=>by
   show g j c cs - aV (fun d ds=>g j d (c::ds)) cs=_
   grind
theorem zq2:∀(rs:List Row) (cs:List Nat),fB rs fun j=>dt rs (j::cs)
 | [],cs=>⟨[],rfl,fun j=>by unfold dt comb;rfl⟩
 | r::rs,cs=>by
  have h1:=(fB.head r rs).mul (dt rs cs);have h2:fB (r::rs) fun j=>aV (fun x ds=>r x*dt rs (j::ds)) cs:=zvs fun x ds=>(((zq2 rs ds).cons r).mul (r x));exact(h1.add (h2.mul (-1))).congr fun j=>by
   show r j*dt rs cs - aV (fun d ds=>r d*dt rs (j::ds)) cs=_
   grind
theorem Tf(rs:List Row):∀(n:Nat) (pre post:List Nat),pre.length=n ->fB rs fun j=>dt rs (pre++j::post)
 | 0,pre,post,h=>by
  have:=List.length_eq_zero_iff.mp h;subst this;exact zq2 rs post
 | n+1,pre,post,h=>by
  have hne:pre≠ []:=fun z=>by subst z;cases h
  have e:=List.dropLast_concat_getLast hne;have ih:=(Tf rs n pre.dropLast (pre.getLast hne::post) (by simp [h])).mul (-1)
  refine ih.congr fun j=> ?_;have e2:pre.dropLast++pre.getLast hne::j::post=pre++j::post:=by
   have:=congrArg (· ++j::post) e
   simpa only [List.append_assoc,List.singleton_append] using this
  rw[<- e2,Ko rs pre.dropLast (pre.getLast hne) j post]
  grind
def kY(x:Rat):Prop:=∃z:Int,x=(z:Rat)
theorem kY.sub{x y:Rat}(h1:kY x)(h2:kY y):kY (x - y):=by
 obtain⟨a,rfl⟩:=h1;obtain⟨b,rfl⟩:=h2;exact⟨a - b,by simp [Rat.intCast_sub]⟩
theorem kY.mul{x y:Rat}(h1:kY x)(h2:kY y):kY (x*y):=by
 obtain⟨a,rfl⟩:=h1;obtain⟨b,rfl⟩:=h2;exact⟨a*b,by simp [Rat.intCast_mul]⟩
theorem zvv{g:Nat ->List Nat ->Rat}:∀{cs:List Nat},(∀c ds,kY (g c ds)) ->kY (aV g cs)
 | [],_=>⟨0,by unfold aV;rfl⟩
 | c::cs,h=>(h c cs).sub (zvv (cs:=cs) fun d ds=>h d (c::ds))
theorem Tg:∀{rs:List Row} {cs:List Nat},(∀r∈rs,∀j,kY (r j)) ->kY (dt rs cs)
 | [],[],_=>⟨1,by unfold dt;rfl⟩
 | [],_::_,_=>⟨0,by unfold dt;rfl⟩
 | r::rs,cs,h=>zvv fun c ds=>(h r zY c).mul (Tg fun s hs=>h s (zX _ hs))
theorem Ti{rs:List Row}{cs:List Nat}{f:Row}(h:fB rs f)(z:∀c∈cs,f c=0)(d:dt rs cs≠0)(j:Nat):f j=0:=by
 obtain⟨ks,_,e⟩:=h;have h1:dt (f::rs) (j::cs)=f j*dt rs cs:=Km z;have h2:dt (f::rs) (j::cs)=dt ((fun _=>0)::rs) (j::cs):=by
  have:=GQ (rs:=rs) (cs:=j::cs) (ks:=ks) (ss:=rs) (r:=fun _=>0) fun s hs=>hs;rw[<- this]
  congr 2
  funext i
  rw[e];grind
 have h3:dt ((fun _=>0)::rs) (j::cs)=0:=Kl fun c _ ds=>by show 0*dt rs ds=0;grind
 rw[h3,h1] at h2;rcases Rat.mul_eq_zero.mp h2 with q | q
 ·exact q
 ·exact absurd q d
theorem z0m{rs:List Row}{cs:List Nat}{a f g:Row}(hf:∀j,f j=a j+g j)(hg:fB rs g)(z:∀c∈cs,f c=0)(wa:∀j,kY (a j))(wr:∀r∈rs,∀j,kY (r j))(j:Nat):kY (dt rs cs*f j):=by
 obtain⟨ks,_,e⟩:=hg;have h1:dt (f::rs) (j::cs)=f j*dt rs cs:=Km z;have h2:dt (f::rs) (j::cs)=dt (a::rs) (j::cs):=by
  have:=GQ (rs:=rs) (cs:=j::cs) (ks:=ks) (ss:=rs) (r:=a) fun s hs=>hs;rw[<- this]
  congr 2
  funext i
  rw[hf,e]
 rw[Rat.mul_comm,<- h1,h2];exact Tg fun r hr=>by
  rcases zV.mp hr with q | q
  ·subst q;exact wa
  ·exact wr r q
theorem z28{rs:List Row}{pre post:List Nat}{c:Nat}{f:Row}(h:fB rs f)(one:f c=1)(z:∀x∈pre++post,f x=0)(wr:∀r∈rs,∀j,kY (r j))(d:dt rs (pre++c::post)≠0)(j:Nat):kY (dt rs (pre++c::post)*f j):=by
 have hl:=Tf rs _ pre post rfl;have e:dt rs (pre++j::post)=dt rs (pre++c::post)*f j:=by
  have key:=Ti (cs:=pre++c::post) (hl.add ((h.mul (dt rs (pre++c::post))).mul (-1))) (fun x hx=> ?_) d j
  ·grind
  ·by_cases hc:x=c
   ·subst hc;rw[one];grind
   ·have hx' :x∈pre++post:=by
     rcases zU.mp hx with q | q
     ·exact zQ _ q
     ·rcases zV.mp q with q | q
      ·exact absurd q hc
      ·exact zR _ q
    rw[z x hx'];have:dt rs (pre++x::post)=0:=by
     rcases zU.mp hx' with q | q
     ·obtain⟨p1,p2,rfl⟩:=List.append_of_mem q;have:=GX rs (pre:=p1) (post:=p2++x::post) (c:=x) (by simp)
      rw[List.append_assoc];exact this
     ·exact GX rs q
    rw[this];grind
 rw[<- e];exact Tg wr
structure Low (rs:List Row) (cs:List Nat) (a f:Row):Prop where
 g:∃g:Row,fB rs g/\∀j,f j=a j+g j
 z:∀c∈cs,f c=0
structure Up (rs:List Row) (cs:List Nat) (c:Nat) (f:Row):Prop where
 l:fB rs f
 o:f c=1
 z:∀x∈cs,x≠c ->f x=0
theorem Low.dt{rs:List Row}{cs:List Nat}{a f:Row}(h:Low rs cs a f)(p:Nat):HM.dt (a::rs) (p::cs)=f p*HM.dt rs cs:=by
 obtain⟨⟨g,⟨ks,_,e⟩,hf⟩,z⟩:=h;have h1:HM.dt (f::rs) (p::cs)=f p*HM.dt rs cs:=Km z;have h2:HM.dt (f::rs) (p::cs)=HM.dt (a::rs) (p::cs):=by
  have:=GQ (rs:=rs) (cs:=p::cs) (ks:=ks) (ss:=rs) (r:=a) fun s hs=>hs;rw[<- this]
  congr 2
  funext i
  rw[hf,e]
 rw[<- h2,h1]
theorem Low.lin{rs:List Row}{cs:List Nat}{a f:Row}(h:Low rs cs a f):fB (a::rs) f:=by
 obtain⟨⟨g,l,hf⟩,_⟩:=h;exact((fB.head a rs).add (l.cons a)).congr hf
theorem Low.step{rs:List Row}{cs:List Nat}{a b q f:Row}{p:Nat}(hq:Low rs cs a q)(hp:q p≠0)(h:Low rs cs b f):Low (a::rs) (p::cs) b (fun j=>f j - f p/q p*q j):=by
 obtain⟨g,l,hf⟩:=h.g;refine⟨⟨_,(l.cons a).add (hq.lin.mul (-(f p/q p))),fun j=>by show f j - f p/q p*q j=b j+ (g j+ -(f p/q p)*q j);rw[hf j];grind⟩,fun c hc=> ?_⟩
 rcases zV.mp hc with e | hc
 ·subst e;show f c - f c/q c*q c=0;rw[Rat.div_mul_cancel hp];grind
 ·show f c - f p/q p*q c=0;rw[h.z c hc,hq.z c hc];grind
theorem Up.step{rs:List Row}{cs:List Nat}{a q f:Row}{p c:Nat}(hq:Low rs cs a q)(hp:q p≠0)(h:Up rs cs c f)(hc:c∈cs):Up (a::rs) (p::cs) c (fun j=>f j - f p/q p*q j):=by
 refine⟨((h.l.cons a).add (hq.lin.mul (-(f p/q p)))).congr fun j=>by show f j - f p/q p*q j=f j+ -(f p/q p)*q j;grind,?_,fun x hx n=> ?_⟩
 ·show f c - f p/q p*q c=1;rw[h.o,hq.z c hc];grind
 ·rcases zV.mp hx with e | hx
  ·subst e;show f x - f x/q x*q x=0;rw[Rat.div_mul_cancel hp];grind
  ·show f x - f p/q p*q x=0;rw[h.z x hx n,hq.z x hx];grind
theorem Up.new{rs:List Row}{cs:List Nat}{a q:Row}{p:Nat}(hq:Low rs cs a q)(hp:q p≠0):Up (a::rs) (p::cs) p (fun j=>q j/q p):=by
 refine⟨(hq.lin.mul (1/q p)).congr fun j=>by show q j/q p=1/q p*q j;grind,?_,fun x hx n=> ?_⟩
 ·show q p/q p=1
  grind
 ·rcases zV.mp hx with e | hx
  ·exact absurd e n
  ·show q x/q p=0;rw[hq.z x hx];grind
def cols:Nat ->List Nat
 | 0=> []
 | p+1=>p::cols p
theorem d9{x:Nat}:∀{p:Nat},x∈cols p↔x<p
 | 0=>by simp [cols]
 | p+1=>by
  unfold cols;rw[List.mem_cons,d9];omega
theorem Tj:∀p,(cols p).Nodup
 | 0=>List.nodup_nil
 | p+1=>by
  unfold cols;exact List.nodup_cons.mpr ⟨fun h=>by have:=d9.mp h;omega,Tj p⟩
def cZ(A:Nat ->Nat ->Int)(k:Nat):Row:=fun j=>(A k j:Rat)
theorem zqh(A:Nat ->Nat ->Int)(k j:Nat):kY (cZ A k j):=⟨_,rfl⟩
structure BT (n:Nat) (A:Nat ->Nat ->Int) (p:Nat) (d:Int) (tb:Nat ->Nat ->Int) (rs:List Row) (fs:Nat ->Row) (ix:Nat ->Nat):Prop where
 w:∀r∈rs,∃k,k<n/\r=cZ A k
 de:(d:Rat)=dt rs (cols p)
 nz:d≠0
 up:∀i,i<p ->Up rs (cols p) i (fs i)
 lo:∀i,p<=i ->i<n ->ix i<n/\Low rs (cols p) (cZ A (ix i)) (fs i)
 all:∀k,k<n ->cZ A k∈rs\/∃i,p<=i/\i<n/\ix i=k
 t:∀i,i<n ->∀j,(tb i j:Rat)=d*fs i j
theorem zx7(n:Nat)(A:Nat ->Nat ->Int):BT n A 0 1 A [] (cZ A) id:=by
 refine⟨fun r h=>(by cases h),?_,by decide,fun i h=>absurd h (Nat.not_lt_zero _),fun i _ h=>⟨h,⟨_,fB.zero [],fun j=>by show cZ A i j=cZ A i j+0;grind⟩,fun c h=>by cases h⟩,fun k h=> .inr ⟨k,Nat.zero_le _,h,rfl⟩,fun i _ j=> ?_⟩
 ·unfold cols HM.dt;rfl
 ·show(A i j:Rat)=1* (A i j:Rat)
  grind
theorem BT.dz{n p:Nat}{A:Nat ->Nat ->Int}{d:Int}{tb:Nat ->Nat ->Int}{rs:List Row}{fs:Nat ->Row}{ix:Nat ->Nat}(h:BT n A p d tb rs fs ix):dt rs (cols p)≠0:=by
 rw[<- h.de];exact fun z=>h.nz (by exact_mod_cast z)
theorem z09{n:Nat}{rs:List Row}{p:Nat}{f:Row}(wr:∀r∈rs,∀j,kY (r j))(dz:dt rs (cols p)≠0)(h:(∃c,c<p/\Up rs (cols p) c f)\/∃a,(∀j,kY (a j))/\Low rs (cols p) a f)(j:Nat):kY (dt rs (cols p)*f j):=by
 rcases h with ⟨c,hc,u⟩ | ⟨a,wa,l⟩
 ·obtain⟨pre,post,e⟩:=List.append_of_mem (d9.mpr hc);have nd:=Tj p;rw[e] at nd;have key:=z28 (rs:=rs) (pre:=pre) (post:=post) (c:=c) (f:=f) u.l u.o (fun x hx=> ?_) wr (by rw[<- e];exact dz) j
  ·rw[e];exact key
  ·refine u.z x ?_ fun z=> ?_
   ·rw[e];rcases zU.mp hx with q | q
    ·exact zQ _ q
    ·exact zR _ (zX _ q)
   ·subst z;rw[List.nodup_append] at nd;rcases zU.mp hx with q | q
    ·exact nd.2.2 x q x zY rfl
    ·exact(List.nodup_cons.mp nd.2.1).1 q
 ·obtain⟨g,lg,hf⟩:=l.g;exact z0m hf lg l.z wa wr j
def jy(p s i:Nat):Nat:=if i=p then s else if i=s then p else i
def nextT(p s:Nat)(d:Int)(tb:Nat ->Nat ->Int):Nat ->Nat ->Int:=fun i j=>if i=p then tb s j else(tb s p*tb (jy p s i) j - tb (jy p s i) p*tb s j).fdiv d
theorem z1p{x d z:Int}(d0:d≠0)(e:x=d*z):x.fdiv d=z:=by
 rw[e,Int.mul_comm,Int.mul_fdiv_cancel _ d0]
theorem zj{a b:Int}(h:(a:Rat)=(b:Rat)):a=b:=by exact_mod_cast h
theorem BT.step{n p s:Nat}{A:Nat ->Nat ->Int}{d:Int}{tb:Nat ->Nat ->Int}{rs:List Row}{fs:Nat ->Row}{ix:Nat ->Nat}(h:BT n A p d tb rs fs ix)(ps:p<=s)(sn:s<n)(nz:tb s p≠0):
  ∃rs' fs' zm,BT n A (p+1) (tb s p) (nextT p s d tb) rs' fs' zm :=by
 obtain⟨hk,lq⟩:=h.lo s ps sn;have ts:(tb s p:Rat)=d*fs s p:=h.t s sn p;have qz:fs s p≠0:=fun z=>nz (zj (by rw[ts,z];grind))
 have d0:(d:Rat)≠0:=fun z=>h.nz (zj (by rw[z];rfl))
 let rs' :List Row:=cZ A (ix s)::rs
 let fs' :Nat ->Row:=fun i=>if i=p then(fun j=>fs s j/fs s p) else(fun j=>fs (jy p s i) j - fs (jy p s i) p/fs s p*fs s j)
 let zm :Nat ->Nat:=fun i=>ix (jy p s i)
 have dd:dt rs' (cols (p+1))=(tb s p:Rat):=by
  show dt (cZ A (ix s)::rs) (p::cols p)=_;rw[lq.dt p,<- h.de,ts,Rat.mul_comm]
 have w' :∀r∈rs',∃k,k<n/\r=cZ A k:=fun r hr=>by
  rcases zV.mp hr with q | q
  ·exact⟨_,hk,q⟩
  ·exact h.w r q
 have wr' :∀r∈rs',∀j,kY (r j):=fun r hr j=>by obtain⟨k,_,rfl⟩:=w' r hr;exact zqh A k j
 have nz' :(tb s p:Rat)≠0:=fun z=>nz (zj (by rw[z];rfl))
 have up' :∀i,i<p+1 ->Up rs' (cols (p+1)) i (fs' i):=fun i hi=>by
  by_cases e:i=p
  ·subst e;show Up rs' (i::cols i) i (if i=i then _ else _);rw[if_pos rfl];exact Up.new lq qz
  ·have hip:i<p:=by omega
   have es:jy p s i=i:=by unfold jy;rw[if_neg e,if_neg (by omega)]
   show Up rs' (p::cols p) i (if i=p then _ else _);rw[if_neg e,es];exact Up.step lq qz (h.up i hip) (d9.mpr hip)
 have G3 :∀i,p+1<=i ->i<n ->zm i<n/\Low rs' (cols (p+1)) (cZ A (zm i)) (fs' i):=fun i hi hn=>by
  have hs:p<=jy p s i/\jy p s i<n:=by
   unfold jy;rw[if_neg (by omega)]
   split<;>omega
  obtain⟨g1,g2⟩:=h.lo _ hs.1 hs.2;refine⟨g1,?_⟩;show Low rs' (p::cols p) _ (if i=p then _ else _);rw[if_neg (by omega)]
  exact Low.step lq qz g2
 refine⟨rs',fs',zm,w',dd.symm,nz,up',G3,fun k hk' => ?_,fun i hi j=> ?_⟩
 ·rcases h.all k hk' with q | ⟨i,q1,q2,q3⟩
  ·exact .inl (zX _ q)
  ·by_cases e:i=s
   ·subst e;exact .inl (by rw[<- q3];exact zY)
   ·by_cases ep:i=p
    ·subst ep;refine .inr ⟨s,by omega,sn,?_⟩
     show ix (jy i s s)=k;unfold jy;rw[if_neg (by omega),if_pos rfl];exact q3
    ·refine .inr ⟨i,by omega,q2,?_⟩
     show ix (jy p s i)=k;unfold jy;rw[if_neg ep,if_neg e];exact q3
 ·by_cases e:i=p
  ·subst e;show((if i=i then tb s j else _:Int):Rat)=(tb s i:Rat)* (if i=i then(fun j=>fs s j/fs s i) else _) j;rw[if_pos rfl,if_pos rfl,h.t s sn j,ts];show(d:Rat)*fs s j=d*fs s i* (fs s j/fs s i)
   grind
  ·have hs:jy p s i<n:=by unfold jy;rw[if_neg e];split<;>omega
   have iz:kY (dt rs' (cols (p+1))*fs' i j):=z09 (n:=n) wr' (by rw[dd];exact nz') (by
    by_cases q:i<p
    ·exact .inl ⟨i,by omega,up' i (by omega)⟩
    ·obtain⟨g1,g2⟩:=G3 i (by omega) hi
     exact .inr ⟨_,zqh A _,g2⟩) j
   obtain⟨z,hz⟩:=iz;rw[dd] at hz;have hf:fs' i j=fs (jy p s i) j - fs (jy p s i) p/fs s p*fs s j:=by
    show(if i=p then _ else _:Row) j=_;rw[if_neg e]
   show((if i=p then _ else(tb s p*tb (jy p s i) j - tb (jy p s i) p*tb s j).fdiv d:Int):Rat)=(tb s p:Rat)*fs' i j;rw[if_neg e,hz]
   congr 1
   refine z1p h.nz (zj ?_);rw[Rat.intCast_sub,Rat.intCast_mul,Rat.intCast_mul,Rat.intCast_mul,h.t _ hs j,h.t _ hs p,h.t s sn j,<- hz,hf,ts]
   grind
def bC:Nat ->(Nat ->Rat) ->Rat
 | 0,_=>0
 | n+1,g=>bC n g+g n
theorem wJ{g h:Nat ->Rat}:∀{n:Nat},(∀i,i<n ->g i=h i) ->bC n g=bC n h
 | 0,_=>rfl
 | n+1,e=>by unfold bC;rw[wJ fun i hi=>e i (by omega),e n (by omega)]
theorem zpf{g:Nat ->Rat}{c:Nat}:∀{n:Nat},c<n ->(∀i,i<n ->i≠c ->g i=0) ->bC n g=g c
 | n+1,hc,h=>by
  unfold bC;by_cases e:c=n
  ·subst e;have:bC c g=0:=by
    rw[wJ (h:=fun _=>0) fun i hi=>h i (by omega) (by omega)]
    clear h hc;induction c with
    | zero=>rfl
    | succ c ih=>unfold bC;rw[ih];grind
   rw[this];grind
  ·rw[zpf (n:=n) (by omega) fun i hi n' =>h i (by omega) n',h n (by omega) fun z=>e z.symm];grind
theorem zug{rs:List Row}{fs:Nat ->Row}(a:Nat ->Rat):∀{p:Nat},(∀c,c<p ->fB rs (fs c)) ->fB rs fun j=>bC p fun c=>a c*fs c j
 | 0,_=>fB.zero rs
 | p+1,h=>((zug a fun c hc=>h c (by omega)).add ((h p (by omega)).mul (a p))).congr fun j=>rfl
theorem BT.span{n p:Nat}{A:Nat ->Nat ->Int}{d:Int}{tb:Nat ->Nat ->Int}{rs:List Row}{fs:Nat ->Row}{ix:Nat ->Nat}(h:BT n A p d tb rs fs ix){f:Row}(l:fB rs f)(j:Nat):f j=bC p fun c=>f c*fs c j:=by
 have hl:=l.add ((zug (rs:=rs) (fs:=fs) f (p:=p) fun c hc=>(h.up c hc).l).mul (-1));have key:=Ti (cs:=cols p) hl (fun c hc=> ?_) h.dz j
 ·grind
 ·have hc' :=d9.mp hc;show f c+ -1* (bC p fun x=>f x*fs x c)=0;rw[zpf hc' fun i hi ni=>by rw[(h.up i hi).z c hc (Ne.symm ni)];grind,(h.up c hc').o]
  grind
theorem BT.eqn{n p:Nat}{A:Nat ->Nat ->Int}{d:Int}{tb:Nat ->Nat ->Int}{rs:List Row}{fs:Nat ->Row}{ix:Nat ->Nat}(h:BT n A p d tb rs fs ix){j:Nat}(z:∀i,p<=i ->i<n ->fs i j=0){k:Nat}(hk:k<n):
  cZ A k j=bC p fun c=>cZ A k c*fs c j:=by
 rcases h.all k hk with q | ⟨i,q1,q2,rfl⟩
 ·exact h.span (fB.mem q) j
 ·obtain⟨_,l⟩:=h.lo i q1 q2;obtain⟨g,lg,hf⟩:=l.g;have h1:=h.span lg j;have h2:∀c,c<p ->g c= - cZ A (ix i) c:=fun c hc=>by
   have:=hf c;rw[l.z c (d9.mpr hc)] at this
   grind
  have h3:=hf j;rw[z i q1 q2] at h3;have h4:(bC p fun c=>g c*fs c j)= - bC p fun c=>cZ A (ix i) c*fs c j:=by
   have neg:∀(m:Nat) (u:Nat ->Rat),(bC m fun c=> - u c)= - bC m u:=fun m u=>by
    induction m with
    | zero=>unfold bC;grind
    | succ m ih=>unfold bC;rw[ih];grind
   rw[<- neg];exact wJ fun c hc=>by rw[h2 c hc];grind
  rw[h4] at h1
  grind
theorem BT.sol{n:Nat}{A:Nat ->Nat ->Int}{d:Int}{tb:Nat ->Nat ->Int}{rs:List Row}{fs:Nat ->Row}{ix:Nat ->Nat}(h:BT n A n d tb rs fs ix){k:Nat}(hk:k<n)(j:Nat):cZ A k j=bC n fun c=>cZ A k c*fs c j:=
 h.eqn (fun i h1 h2=>by omega) hk
theorem BT.diag{n p:Nat}{A:Nat ->Nat ->Int}{d:Int}{tb:Nat ->Nat ->Int}{rs:List Row}{fs:Nat ->Row}{ix:Nat ->Nat}(h:BT n A p d tb rs fs ix){i:Nat}(hi:i<p)(hn:i<n):tb i i=d:=by
 have:=h.t i hn i;rw[(h.up i hi).o] at this;exact zj (by rw[this];grind)
theorem BT.stuck{n p:Nat}{A:Nat ->Nat ->Int}{d:Int}{tb:Nat ->Nat ->Int}{rs:List Row}{fs:Nat ->Row}{ix:Nat ->Nat}(h:BT n A p d tb rs fs ix)(pn:p<n)(z:∀i,p<=i ->i<n ->tb i p=0):
  ∃x:Nat ->Rat,x p=1/\∀k,k<n ->(bC n fun c=>cZ A k c*x c)=0:=by
 have d0:(d:Rat)≠0:=fun q=>h.nz (zj (by rw[q];rfl))
 have z' :∀i,p<=i ->i<n ->fs i p=0:=fun i h1 h2=>by
  have:=h.t i h2 p;rw[z i h1 h2] at this;rcases Rat.mul_eq_zero.mp (show(d:Rat)*fs i p=0 by rw[<- this];rfl) with q | q
  ·exact absurd q d0
  ·exact q
 refine⟨fun c=>if c<p then - fs c p else if c=p then 1 else 0,by simp,fun k hk=> ?_⟩
 have e:=h.eqn z' hk;have cut:∀m,p<m ->m<=n ->(bC m fun c=>cZ A k c* (if c<p then - fs c p else if c=p then 1 else 0))=(bC p fun c=>cZ A k c* (- fs c p))+cZ A k p:=fun m=>by
  induction m with
  | zero=>intro hm;omega
  | succ m ih=>
   intro hm hn;show(bC m fun c=>cZ A k c* (if c<p then - fs c p else if c=p then 1 else 0))+cZ A k m* (if m<p then - fs m p else if m=p then 1 else 0)=_;by_cases q:m=p
   ·subst q;rw[if_neg (by omega),if_pos rfl]
    rw[wJ (h:=fun c=>cZ A k c* (- fs c m)) fun c hc=>by rw[if_pos hc]]
    grind
   ·rw[ih (by omega) (by omega),if_neg (by omega),if_neg q];grind
 rw[cut n pn (Nat.le_refl _),e];have neg:(bC p fun c=>cZ A k c* (- fs c p))= - bC p fun c=>cZ A k c*fs c p:=by
  have:∀(m:Nat) (u:Nat ->Rat),(bC m fun c=> - u c)= - bC m u:=fun m u=>by
   induction m with
   | zero=>unfold bC;grind
   | succ m ih=>unfold bC;rw[ih];grind
  rw[<- this];exact wJ fun c _=>by grind
 rw[neg];grind
def ao{α:Type}:List α ->(α ->Rat) ->Rat
 | [],_=>0
 | a::l,f=>f a+ao l f
section
variable{α β:Type}
theorem eY{f g:α ->Rat}:∀{l:List α},(∀a∈l,f a=g a) ->ao l f=ao l g
 | [],_=>rfl
 | a::l,h=>by
  unfold ao;rw[h a List.mem_cons_self,eY fun b hb=>h b (List.mem_cons_of_mem _ hb)]
theorem Bx{f g:α ->Rat}:∀{l:List α},ao l (fun a=>f a+g a)=ao l f+ao l g
 | []=>by unfold ao;grind
 | a::l=>by unfold ao;rw[Bx (l:=l)];grind
theorem wK{f g:α ->Rat}:∀{l:List α},ao l (fun a=>f a - g a)=ao l f - ao l g
 | []=>by unfold ao;grind
 | a::l=>by unfold ao;rw[wK (l:=l)];grind
theorem qQ(k:Rat){f:α ->Rat}:∀{l:List α},ao l (fun a=>k*f a)=k*ao l f
 | []=>by unfold ao;grind
 | a::l=>by unfold ao;rw[qQ k (l:=l)];grind
theorem wL{f:α ->Rat}:∀{l:List α},(∀a∈l,f a=0) ->ao l f=0
 | [],_=>rfl
 | a::l,h=>by
  unfold ao;rw[h a List.mem_cons_self,wL fun b hb=>h b (List.mem_cons_of_mem _ hb)];grind
theorem zp(k:Rat):∀{l:List α},ao l (fun _=>k)=(l.length:Rat)*k
 | []=>by
  show(0:Rat)=((0:Nat):Rat)*k;have:((0:Nat):Rat)=0:=rfl;rw[this];grind
 | a::l=>by
  show k+ao l (fun _=>k)=((l.length+1:Nat):Rat)*k;rw[zp k];have:((l.length+1:Nat):Rat)=(l.length:Rat)+1:=by exact_mod_cast rfl
  rw[this];grind
theorem G4{f:α ->β ->Rat}{m:List β}:∀{l:List α},ao l (fun a=>ao m (f a))=ao m fun b=>ao l fun a=>f a b
 | []=>by
  show(0:Rat)=_;exact(wL fun _ _=>rfl).symm
 | a::l=>by
  show ao m (f a)+ao l (fun a=>ao m (f a))=ao m fun b=>f a b+ao l fun a=>f a b;rw[G4 (l:=l),<- Bx]
theorem zi3{f:α ->Rat}:∀{l m:List α},ao (l++m) f=ao l f+ao m f
 | [],m=>by show ao m f=0+ao m f;grind
 | a::l,m=>by show f a+ao (l++m) f=(f a+ao l f)+ao m f;rw[zi3];grind
theorem zsb{f:α ->Rat}{l m:List α}(h:l.Perm m):ao l f=ao m f:=by
 induction h with
 | nil=>rfl
 | cons x _ ih=>show f x+_=f x+_;rw[ih]
 | swap x y l=>show f y+ (f x+ao l f)=f x+ (f y+ao l f);grind
 | trans _ _ h1 h2=>rw[h1,h2]
theorem uH{f:α ->Rat}{p:α ->Bool}:∀{l:List α},ao (l.filter p) f=ao l fun a=>if p a=true then f a else 0
 | []=>rfl
 | a::l=>by
  rw[List.filter_cons];show _=(if p a=true then f a else 0)+ao l fun a=>if p a=true then f a else 0;rw[<- uH (l:=l)];by_cases h:p a=true
  ·rw[if_pos h,if_pos h];rfl
  ·rw[if_neg h,if_neg h];grind
theorem uI{f:β ->Rat}{g:α ->β}:∀{l:List α},ao (l.map g) f=ao l fun a=>f (g a)
 | []=>rfl
 | a::l=>by show f (g a)+_=f (g a)+_;rw[uI]
theorem G5{f:α ->Rat}:∀{l:List α},(∀a∈l,0<=f a) ->0<=ao l f
 | [],_=>by unfold ao;exact Rat.le_refl
 | a::l,h=>by
  have h1:=h a zY;have h2:=G5 fun b hb=>h b (zX a hb);show 0<=f a+ao l f
  grind
theorem BJ{f:α ->Rat}:∀{l:List α},(∀a∈l,0<=f a) ->ao l f=0 ->∀a∈l,f a=0
 | a::l,h,e=>by
  have h1:=h a zY;have h2:=G5 fun b hb=>h b (zX a hb);have e' :f a+ao l f=0:=e;have e1:f a=0:=by grind
  have e2:ao l f=0:=by grind
  intro b hb;rcases zV.mp hb with q | q
  ·rw[q];exact e1
  ·exact BJ (fun b hb=>h b (zX a hb)) e2 b q
 | [],_,_=>fun a h=>by cases h
end
section
variable{α:Type}[DecidableEq α]
theorem BK{f:α ->Rat}{s hs:List α}(ns:s.Nodup)(nh:hs.Nodup)(sub:∀x∈s,x∈hs):ao hs (fun h=>if h∈s then f h else 0)=ao s f:=by
 have p:(hs.filter fun h=>decide (h∈s)).Perm s:=by
  rw[List.perm_ext_iff_of_nodup (nh.filter _) ns];intro a;rw[List.mem_filter];exact⟨fun h=>of_decide_eq_true h.2,fun h=>⟨sub a h,decide_eq_true h⟩⟩
 rw[<- zsb p,uH];exact eY fun a _=>by by_cases h:a∈s<;>simp [h]
def aW(s:List α)(x:α ->Rat):Rat:=ao s x/ (s.length:Rat)
theorem zs5{s:List α}(h:s≠ [])(x:α ->Rat):(s.length:Rat)*aW s x=ao s x:=by
 have z:(s.length:Rat)≠0:=by
  have:=List.length_pos_iff.mpr h;intro e;have:s.length=0:=by exact_mod_cast e
  omega
 unfold aW;rw[Rat.div_def,Rat.mul_comm,Rat.mul_assoc,Rat.inv_mul_cancel _ z];grind
theorem Tn(s:List α)(x:α ->Rat):ao s (fun h=>x h - aW s x)=0:=by
 rw[wK,zp];by_cases h:s= []
 ·subst h;show(0:Rat) - ((0:Nat):Rat)*_=0;have:((0:Nat):Rat)=0:=rfl;rw[this];grind
 ·rw[zs5 h];grind
def iK(S:List (List α))(x:α ->Rat)(h:α):Rat:=ao S fun s=>if h∈s then x h - aW s x else 0
theorem zq4{S:List (List α)}{hs:List α}(ns:∀s∈S,s.Nodup)(nh:hs.Nodup)(sub:∀s∈S,∀x∈s,x∈hs)(c x:α ->Rat):ao hs (fun h=>c h*iK S x h)=ao S fun s=>ao s fun h=>c h* (x h - aW s x):=by
 unfold iK;have e:ao hs (fun h=>c h*ao S fun s=>if h∈s then x h - aW s x else 0)=ao hs fun h=>ao S fun s=>if h∈s then c h* (x h - aW s x) else 0:=
  eY fun h _=>by
   rw[<- qQ];exact eY fun s _=>by split<;>grind
 rw[e,G4];exact eY fun s hS=>BK (ns s hS) nh (sub s hS)
theorem z1o{S:List (List α)}{hs:List α}(ns:∀s∈S,s.Nodup)(nh:hs.Nodup)(sub:∀s∈S,∀x∈s,x∈hs)(x:α ->Rat):ao hs (iK S x)=0:=by
 have e:=zq4 ns nh sub (fun _=>1) x;have e1:ao hs (fun h=>1*iK S x h)=ao hs (iK S x):=eY fun h _=>by grind
 rw[<- e1,e];exact wL fun s _=>by
  have e2:ao s (fun h=>1* (x h - aW s x))=ao s (fun h=>x h - aW s x):=eY fun h _=>by grind
  rw[e2,Tn]
theorem Kp(r:Rat):0<=r*r:=by
 rcases Rat.le_total (a:=0) (b:=r) with h | h
 ·exact Rat.mul_nonneg h h
 ·have h' :0<= -r:=by grind
  have:=Rat.mul_nonneg h' h'
  grind
theorem zsi{r:Rat}(h:r*r=0):r=0:=by
 rcases Rat.mul_eq_zero.mp h with h | h<;>exact h
theorem zyt{S:List (List α)}{hs:List α}(ns:∀s∈S,s.Nodup)(nh:hs.Nodup)(sub:∀s∈S,∀x∈s,x∈hs){x:α ->Rat}(z:∀h∈hs,iK S x h=0):∀s∈S,∀h∈s,x h=aW s x:=by
 have e:=zq4 ns nh sub x x;rw[wL fun h hh=>by rw[z h hh];grind] at e
 have e2:∀s,ao s (fun h=>x h* (x h - aW s x))=ao s fun h=>(x h - aW s x)* (x h - aW s x):=by
  intro s;have a1:=Tn s x;have a2:ao s (fun h=>(x h - aW s x)* (x h - aW s x))=ao s fun h=>x h* (x h - aW s x) - aW s x* (x h - aW s x):=eY fun h _=>by grind
  rw[a2,wK,qQ,a1];grind
 have e3:ao S (fun s=>ao s fun h=>(x h - aW s x)* (x h - aW s x))=0:=by
  rw[e];exact eY fun s _=>(e2 s).symm
 intro s hs h hh;have h1:=BJ (fun s _=>G5 fun h _=>Kp _) e3 s hs;have h2:=BJ (fun h _=>Kp _) h1 h hh;have:=zsi h2
 grind
def dw(S:List (List α))(h:α):Rat:=ao S fun s=>if h∈s then 1 else 0
theorem zjw(S:List (List α))(h:α):0<=dw S h:=G5 fun s _=>by split<;>decide
theorem zz8{S:List (List α)}{h:α}(i:∃s∈S,h∈s):0<dw S h:=by
 obtain⟨s,hs,hh⟩:=i;refine Rat.lt_of_le_of_ne (zjw S h) fun z=> ?_;have:=BJ (l:=S) (f:=fun s=>if h∈s then(1:Rat) else 0) (fun s _=>by split<;>decide) z.symm s hs
 rw[if_pos hh] at this;exact absurd this (by decide)
theorem zsu{S:List (List α)}{h0:α}{hs:List α}(ns:∀s∈S,s.Nodup)(nh:(h0::hs).Nodup)(sub:∀s∈S,∀x∈s,x∈h0::hs)(on:∀h∈h0::hs,∃s∈S,h∈s)
  (min:∀C:α ->Prop,(∀s∈S,(∃x∈s,C x) ->∀x∈s,C x) ->(∃x∈h0::hs,C x) ->∀x∈h0::hs,C x)
  {x:α ->Rat} (z:∀h∈hs,iK S x h=0) (w:ao (h0::hs) (fun h=>dw S h*x h)=0):∀h∈h0::hs,x h=0:=by
 have z' :∀h∈h0::hs,iK S x h=0:=by
  have e:=z1o ns nh sub x;have e' :iK S x h0+ao hs (iK S x)=0:=e;rw[wL z] at e';intro h hh;rcases zV.mp hh with q | q
  ·rw[q];grind
  ·exact z h q
 have ev:=zyt ns nh sub z';have same:∀h∈h0::hs,x h=x h0:=min (fun h=>x h=x h0) (fun s hS hx b hb=>by
  obtain⟨a,ha,ea⟩:=hx;show x b=x h0;have ea' :x a=x h0:=ea;rw[ev s hS b hb,<- ev s hS a ha,ea']) ⟨h0,zY,rfl⟩
 have e1:ao (h0::hs) (fun h=>dw S h*x h)=x h0*ao (h0::hs) (dw S):=by
  rw[<- qQ];exact eY fun h hh=>by rw[same h hh];grind
 rw[e1] at w;have pos:ao (h0::hs) (dw S)≠0:=fun zz=>by
  have:=BJ (fun h _=>zjw S h) zz h0 zY;have p:=zz8 (on h0 zY);rw[this] at p;exact absurd p (by decide)
 rcases Rat.mul_eq_zero.mp w with q | q
 ·intro h hh;rw[same h hh,q]
 ·exact absurd q pos
def bL(S:List (List α))(h o:α):Rat:=(if h=o then dw S h else 0) - ao S fun s=>if h∈s/\o∈s then 1/ (s.length:Rat) else 0
theorem zte{S:List (List α)}{hs:List α}(ns:∀s∈S,s.Nodup)(nh:hs.Nodup)(sub:∀s∈S,∀x∈s,x∈hs)(x:α ->Rat){h:α}(hh:h∈hs):ao hs (fun o=>bL S h o*x o)=iK S x h:=by
 have e1:ao hs (fun o=>bL S h o*x o)=ao hs (fun o=>if o∈ [h] then dw S h*x o else 0) - ao hs fun o=>ao S fun s=>if h∈s/\o∈s then x o/ (s.length:Rat) else 0:=by
  rw[<- wK];refine eY fun o _=> ?_;unfold bL;have e2:(ao S fun s=>if h∈s/\o∈s then x o/ (s.length:Rat) else 0)=x o*ao S fun s=>if h∈s/\o∈s then 1/ (s.length:Rat) else 0:=by
   rw[<- qQ];exact eY fun s _=>by split<;>first | (simp only [Rat.div_def];grind) | grind
  rw[e2];by_cases q:h=o
  ·subst q;rw[if_pos rfl,if_pos (List.mem_singleton.mpr rfl)];grind
  ·rw[if_neg q,if_neg fun z=>q (List.mem_singleton.mp z).symm];grind
 rw[e1,BK (by simp) nh fun y hy=>by rw[List.mem_singleton.mp hy];exact hh,G4]
 have e3:ao [h] (fun o=>dw S h*x o)=ao S fun s=>if h∈s then x h else 0:=by
  show dw S h*x h+0=_;unfold dw;have:(ao S fun s=>if h∈s then x h else 0)=x h*ao S fun s=>if h∈s then 1 else 0:=by
   rw[<- qQ];exact eY fun s _=>by split<;>grind
  rw[this];grind
 rw[e3,<- wK];refine eY fun s hS=> ?_;by_cases q:h∈s
 ·rw[if_pos q,if_pos q]
  congr 1
  have e4:ao hs (fun o=>if h∈s/\o∈s then x o/ (s.length:Rat) else 0)=ao hs fun o=>if o∈s then x o/ (s.length:Rat) else 0:=eY fun o _=>by simp [q]
  rw[e4,BK (ns s hS) nh (sub s hS)];unfold aW;have e5:ao s (fun o=>x o/ (s.length:Rat))=(s.length:Rat)⁻¹*ao s x:=by
   rw[<- qQ];exact eY fun o _=>by rw[Rat.div_def];grind
  rw[e5,Rat.div_def];grind
 ·rw[if_neg q,if_neg q,wL fun o _=>by simp [q]];grind
variable{σ:Type}
def fC(k:σ ->List α)(y:σ ->α ->Rat)(S:List σ)(h:α):Rat:=ao S fun s=>if h∈k s then y s h - aW (k s) (y s) else 0
theorem zx5{k:σ ->List α}{S:List σ}{hs:List α}(ns:∀s∈S,(k s).Nodup)(nh:hs.Nodup)(sub:∀s∈S,∀x∈k s,x∈hs)(y:σ ->α ->Rat):ao hs (fC k y S)=0:=by
 show ao hs (fun h=>ao S fun s=>if h∈k s then y s h - aW (k s) (y s) else 0)=0;rw[G4];refine wL fun s hS=> ?_;rw[BK (f:=fun h=>y s h - aW (k s) (y s)) (ns s hS) nh (sub s hS)];exact Tn _ _
theorem zv5(s:List α)(x y:α ->Rat):aW s (fun o=>x o - y o)=aW s x - aW s y:=by
 unfold aW;rw[wK,Rat.div_def,Rat.div_def,Rat.div_def];grind
theorem zw9{k:σ ->List α}(y:σ ->α ->Rat)(x:α ->Rat)(S:List σ)(h:α):fC k (fun s o=>y s o - x o) S h=fC k y S h - iK (S.map k) x h:=by
 unfold fC iK;rw[uI,<- wK];exact eY fun s _=>by
  rw[zv5];split<;>grind
theorem zxs{k:σ ->List α}{S:List σ}{h0:α}{hs:List α}(ns:∀s∈S,(k s).Nodup)(nh:(h0::hs).Nodup)(sub:∀s∈S,∀x∈k s,x∈h0::hs)(y:σ ->α ->Rat)(x:α ->Rat)
  (e:∀h∈hs,iK (S.map k) x h=fC k y S h):∀h∈h0::hs,fC k (fun s o=>y s o - x o) S h=0:=by
 have e' :∀h∈hs,fC k (fun s o=>y s o - x o) S h=0:=fun h hh=>by rw[zw9,e h hh];grind
 have q:=zx5 ns nh sub fun s o=>y s o - x o;have q' :fC k (fun s o=>y s o - x o) S h0+ao hs (fC k (fun s o=>y s o - x o) S)=0:=q;rw[wL e'] at q';intro h hh;rcases zV.mp hh with r | r
 ·rw[r];grind
 ·exact e' h r
theorem zmi{β:Type}[Inhabited β](f:β ->Rat):∀(l:List β),bC l.length (fun j=>f (l.getD j default))=ao l f:=by
 intro l;have key:∀(m:List β) n,n<=m.length ->bC n (fun j=>f (m.getD j default))=ao (m.take n) f:=by
  intro m n;induction n with
  | zero=>intro _;rfl
  | succ n ih=>
   intro h;have e:m.take (n+1)=m.take n++ [m[n]]:=by rw[List.take_succ,List.getElem?_eq_getElem h];rfl
   show bC n (fun j=>f (m.getD j default))+f (m.getD n default)=_;rw[ih (by omega),e,zi3]
   have:m.getD n default=m[n]:=by rw[List.getD_eq_getElem?_getD,List.getElem?_eq_getElem h];rfl
   rw[this];show _+f m[n]=_+ (f m[n]+0)
   grind
 have:=key l l.length (zO _)
 rwa [List.take_length] at this
end
def ZB(B:Nat)(x:Rat):Prop:=∃z:Int,x=(z:Rat)/\z.natAbs<=B
theorem ZB.sub{A B:Nat}{x y:Rat}(h1:ZB A x)(h2:ZB B y):ZB (A+B) (x - y):=by
 obtain⟨a,rfl,ha⟩:=h1;obtain⟨b,rfl,hb⟩:=h2;exact⟨a - b,by simp [Rat.intCast_sub],by omega⟩
theorem ZB.mul{A B:Nat}{x y:Rat}(h1:ZB A x)(h2:ZB B y):ZB (A*B) (x*y):=by
 obtain⟨a,rfl,ha⟩:=h1;obtain⟨b,rfl,hb⟩:=h2;exact⟨a*b,by simp [Rat.intCast_mul],by rw[Int.natAbs_mul];exact Nat.mul_le_mul ha hb⟩
theorem ZB.mono{A B:Nat}{x:Rat}(h:ZB A x)(l:A<=B):ZB B x:=by
 obtain⟨a,rfl,ha⟩:=h;exact⟨a,rfl,zP ha l⟩
theorem ZB.zero(B:Nat):ZB B 0:=⟨0,rfl,Nat.zero_le _⟩
theorem zy2{B:Nat}{g:Nat ->List Nat ->Rat}:∀{cs:List Nat},(∀c ds,ds.length+1=cs.length ->ZB B (g c ds)) ->ZB (cs.length*B) (aV g cs)
 | [],_=>by unfold aV;exact ZB.zero _
 | c::cs,h=>by
  have h1:=(h c cs rfl).sub (zy2 (cs:=cs) (g:=fun d ds=>g d (c::ds)) fun d ds e=>h d (c::ds) (by simp;omega))
  refine ZB.mono h1 ?_;rw[List.length_cons,Nat.add_mul];omega
theorem Kq{M N:Nat}:∀{rs:List Row} {cs:List Nat},(∀r∈rs,∀j,ZB M (r j)) ->cs.length<=N ->ZB ((N*M)^rs.length) (dt rs cs)
 | [],[],_,_=>⟨1,by unfold dt;rfl,by simp⟩
 | [],_::_,_,_=>by unfold dt;exact ZB.zero _
 | r::rs,cs,h,l=>by
  have h1:ZB (cs.length* (M* (N*M)^rs.length)) (aV (fun c ds=>r c*dt rs ds) cs):=zy2 fun c ds e=>(h r zY c).mul (Kq (fun s hs=>h s (zX _ hs)) (by omega))
  refine ZB.mono h1 ?_;rw[List.length_cons,Nat.pow_succ,Nat.mul_comm ((N*M)^rs.length),Nat.mul_assoc];exact Nat.mul_le_mul_right _ l
theorem zgi{g:Nat ->List Nat ->Rat}:∀{cs:List Nat},(∀c ds,ds.length+1=cs.length ->g c ds=0) ->aV g cs=0
 | [],_=>rfl
 | c::cs,h=>by
  unfold aV;rw[h c cs rfl,zgi (cs:=cs) fun d ds e=>h d (c::ds) (by simp;omega)]
  grind
theorem zzp:∀{rs:List Row} {cs:List Nat},rs.length≠cs.length ->dt rs cs=0
 | [],[],h=>absurd rfl h
 | [],_::_,_=>rfl
 | r::rs,cs,h=>zgi fun c ds e=>by
   show r c*dt rs ds=0;rw[zzp (by simp at h;omega)];grind
theorem G6:∀p,(cols p).length=p
 | 0=>rfl
 | p+1=>by unfold cols;rw[List.length_cons,G6 p]
theorem BT.len{n p:Nat}{A:Nat ->Nat ->Int}{d:Int}{tb:Nat ->Nat ->Int}{rs:List Row}{fs:Nat ->Row}{ix:Nat ->Nat}(h:BT n A p d tb rs fs ix):rs.length=p:=by
 have z:=h.dz;rcases Nat.decEq rs.length (cols p).length with q | q
 ·exact absurd (zzp q) z
 ·rw[q,G6]
theorem z3h{rs:List Row}{cs:List Nat}{a f g:Row}(hf:∀j,f j=a j+g j)(hg:fB rs g)(z:∀c∈cs,f c=0)(j:Nat):dt rs cs*f j=dt (a::rs) (j::cs):=by
 obtain⟨ks,_,e⟩:=hg;have h1:dt (f::rs) (j::cs)=f j*dt rs cs:=Km z;have h2:dt (f::rs) (j::cs)=dt (a::rs) (j::cs):=by
  have:=GQ (rs:=rs) (cs:=j::cs) (ks:=ks) (ss:=rs) (r:=a) fun s hs=>hs;rw[<- this]
  congr 2
  funext i
  rw[hf,e]
 rw[Rat.mul_comm,<- h1,h2]
theorem z5t{rs:List Row}{pre post:List Nat}{c:Nat}{f:Row}(h:fB rs f)(one:f c=1)(z:∀x∈pre++post,f x=0)(d:dt rs (pre++c::post)≠0)(j:Nat):dt rs (pre++c::post)*f j=dt rs (pre++j::post):=by
 have hl:=Tf rs _ pre post rfl;have key:=Ti (cs:=pre++c::post) (hl.add ((h.mul (dt rs (pre++c::post))).mul (-1))) (fun x hx=> ?_) d j
 ·grind
 ·by_cases hc:x=c
  ·subst hc;rw[one];grind
  ·have hx' :x∈pre++post:=by
    rcases zU.mp hx with q | q
    ·exact zQ _ q
    ·rcases zV.mp q with q | q
     ·exact absurd q hc
     ·exact zR _ q
   rw[z x hx'];have:dt rs (pre++x::post)=0:=by
    rcases zU.mp hx' with q | q
    ·obtain⟨p1,p2,rfl⟩:=List.append_of_mem q;have:=GX rs (pre:=p1) (post:=p2++x::post) (c:=x) (by simp)
     rw[List.append_assoc];exact this
    ·exact GX rs q
   rw[this];grind
theorem Tq{z w:Int}{B:Nat}(e:(z:Rat)=(w:Rat))(h:w.natAbs<=B):z.natAbs<=B:=by
 rw[zj e];exact h
theorem BT.small{n p M N:Nat}{A:Nat ->Nat ->Int}{d:Int}{tb:Nat ->Nat ->Int}{rs:List Row}{fs:Nat ->Row}{ix:Nat ->Nat}(h:BT n A p d tb rs fs ix)(hA:∀k,k<n ->∀j,(A k j).natAbs<=M)(hp:p+1<=N)(h1:1<=N*M){i:Nat}(hi:i<n)(j:Nat):(tb i j).natAbs<=(N*M)^ (p+1):=by
 have wr:∀r∈rs,∀j,ZB M (r j):=fun r hr j=>by
  obtain⟨k,hk,rfl⟩:=h.w r hr;exact⟨A k j,rfl,hA k hk j⟩
 have hl:=h.len;have pw:(N*M)^p<=(N*M)^ (p+1):=Nat.pow_le_pow_right h1 (by omega)
 have ht:=h.t i hi j;rw[h.de] at ht;by_cases q:i<p
 ·have u:=h.up i q;obtain⟨pre,post,e⟩:=List.append_of_mem (d9.mpr q);have nd:=Tj p;have dz:=h.dz;have ll:=G6 p;rw[e] at nd dz ht ll;have key:=z5t (rs:=rs) (pre:=pre) (post:=post) (c:=i) (f:=fs i) u.l u.o (fun x hx=> ?_) dz j
  ·rw[key] at ht;obtain⟨z,ez,hz⟩:=Kq (cs:=pre++j::post) wr (N:=N) (by simp at ll⊢;omega)
   rw[hl] at hz;rw[ez] at ht;exact zP (Tq ht hz) pw
  ·refine u.z x ?_ fun z=> ?_
   ·rw[e];rcases zU.mp hx with q | q
    ·exact zQ _ q
    ·exact zR _ (zX _ q)
   ·subst z;rw[List.nodup_append] at nd;rcases zU.mp hx with q | q
    ·exact nd.2.2 x q x zY rfl
    ·exact(List.nodup_cons.mp nd.2.1).1 q
 ·obtain⟨hx,lo⟩:=h.lo i (by omega) hi
  obtain⟨g,lg,hf⟩:=lo.g;rw[z3h hf lg lo.z j] at ht;obtain⟨z,ez,hz⟩:=Kq (rs:=cZ A (ix i)::rs) (cs:=j::cols p) (M:=M) (N:=N) (fun r hr=>by
   rcases zV.mp hr with q | q
   ·subst q;exact fun j=>⟨A (ix i) j,rfl,hA _ hx j⟩
   ·exact wr r q) (by rw[List.length_cons,G6];omega)
  rw[List.length_cons,hl] at hz;rw[ez] at ht;exact Tq ht hz
theorem BT.lead{n p M N:Nat}{A:Nat ->Nat ->Int}{d:Int}{tb:Nat ->Nat ->Int}{rs:List Row}{fs:Nat ->Row}{ix:Nat ->Nat}(h:BT n A p d tb rs fs ix)(hA:∀k,k<n ->∀j,(A k j).natAbs<=M)(hp:p<=N):d.natAbs<=(N*M)^p:=by
 have wr:∀r∈rs,∀j,ZB M (r j):=fun r hr j=>by
  obtain⟨k,hk,rfl⟩:=h.w r hr;exact⟨A k j,rfl,hA k hk j⟩
 obtain⟨z,ez,hz⟩:=Kq (cs:=cols p) wr (N:=N) (by rw[G6];exact hp)
 rw[h.len] at hz;exact Tq (h.de.trans ez) hz
section
variable{α β:Type}[DecidableEq α][DecidableEq β]
def bh(rows:List (α×β×Int))(w:α):List (α×β×Int):=rows.filter fun r=>decide (r.1=w)
def oX(rows:List (α×β×Int))(h:β):List (α×β×Int):=rows.filter fun r=>decide (r.2.1=h)
def ofM(rows:List (α×β×Int))(m:List β):List (α×β×Int):=rows.filter fun r=>decide (r.2.1∈m)
def Uq(rows:List (α×β×Int)):Prop:=rows.Pairwise fun a b=>¬(a.1=b.1/\a.2.1=b.2.1)
def kW(rows:List (α×β×Int))(w:α):List β:=(bh rows w).map fun r=>r.2.1
def yW(rows:List (α×β×Int))(w:α)(h:β):Rat:=match rows.find? (fun r=>decide (r.1=w/\r.2.1=h)) with | some r=>(r.2.2:Rat) | none=>0
theorem aJ{rows:List (α×β×Int)}{w:α}{r:α×β×Int}:r∈bh rows w↔r∈rows/\r.1=w:=by
 unfold bh;rw[List.mem_filter,decide_eq_true_iff]
theorem dg{rows:List (α×β×Int)}{h:β}{r:α×β×Int}:r∈oX rows h↔r∈rows/\r.2.1=h:=by
 unfold oX;rw[List.mem_filter,decide_eq_true_iff]
theorem gM{rows:List (α×β×Int)}{m:List β}{r:α×β×Int}:r∈ofM rows m↔r∈rows/\r.2.1∈m:=by
 unfold ofM;rw[List.mem_filter,decide_eq_true_iff]
theorem Uq.M{rows:List (α×β×Int)}(u:Uq rows)(m:List β):Uq (ofM rows m):=u.filter _
theorem Kr{γ δ:Type}{f:γ ->δ}{R:γ ->γ ->Prop}:∀{l:List γ},l.Pairwise R ->(∀a∈l,∀b∈l,R a b ->f a≠f b) ->(l.map f).Nodup
 | [],_,_=>List.nodup_nil
 | a::l,h,k=>by
  rw[List.pairwise_cons] at h;rw[List.map_cons,List.nodup_cons];refine⟨fun z=> ?_,Kr h.2 fun a ha b hb=>k a (zX _ ha) b (zX _ hb)⟩;obtain⟨b,hb,e⟩:=zF.mp z;exact k a zY b (zX _ hb) (h.1 b hb) e.symm
theorem Tr{rows:List (α×β×Int)}(u:Uq rows)(w:α):(kW rows w).Nodup:=by
 refine Kr (u.filter _) fun a ha b hb n e=>n ⟨?_,e⟩;rw[(aJ.mp ha).2,(aJ.mp hb).2]
theorem zyg{rows:List (α×β×Int)}(u:Uq rows)(h:β):((oX rows h).map fun r=>r.1).Nodup:=by
 refine Kr (u.filter _) fun a ha b hb n e=>n ⟨e,?_⟩;rw[(dg.mp ha).2,(dg.mp hb).2]
theorem fD{rows:List (α×β×Int)}{w:α}{h:β}:h∈kW rows w↔∃r∈rows,r.1=w/\r.2.1=h:=by
 unfold kW;rw[List.mem_map];exact⟨fun⟨r,h1,h2⟩=>⟨r,(aJ.mp h1).1,(aJ.mp h1).2,h2⟩,fun⟨r,h1,h2,h3⟩=>⟨r,aJ.mpr ⟨h1,h2⟩,h3⟩⟩
theorem Tt:∀{rows:List (α×β×Int)},Uq rows ->∀{a b:α×β×Int},a∈rows ->b∈rows ->a.1=b.1 ->a.2.1=b.2.1 ->a=b
 | r::rows,u,a,b,ha,hb,e1,e2=>by
  unfold Uq at u;rw[List.pairwise_cons] at u;rcases zV.mp ha with q | q
  ·rcases zV.mp hb with q' | q'
   ·rw[q,q']
   ·subst q;exact absurd ⟨e1,e2⟩ (u.1 b q')
  ·rcases zV.mp hb with q' | q'
   ·subst q';exact absurd ⟨e1.symm,e2.symm⟩ (u.1 a q)
   ·exact Tt u.2 q q' e1 e2
theorem Ks{rows:List (α×β×Int)}(u:Uq rows){r:α×β×Int}(hr:r∈rows):yW rows r.1 r.2.1=(r.2.2:Rat):=by
 unfold yW;cases e:rows.find? (fun s=>decide (s.1=r.1/\s.2.1=r.2.1)) with
 | none=>
  have:=List.find?_eq_none.mp e r hr;simp at this
 | some s=>
  have h1:=List.mem_of_find?_eq_some e;have h2:s.1=r.1/\s.2.1=r.2.1:=by
   have:=List.find?_some e
   simpa using this
  rw[Tt u h1 hr h2.1 h2.2]
theorem zzc{rows:List (α×β×Int)}{w:α}(f:β ->Rat):ao (kW rows w) f=ao (bh rows w) fun r=>f r.2.1:=uI
theorem BL(rows:List (α×β×Int))(w:α):(kW rows w).length=(bh rows w).length:=by unfold kW;rw[List.length_map]
theorem zzq{rows:List (α×β×Int)}{ws:List α}(u:Uq rows)(nw:ws.Nodup)(cw:∀r∈rows,r.1∈ws)(h:β)(F:α ->Rat):ao ws (fun w=>if h∈kW rows w then F w else 0)=ao (oX rows h) fun r=>F r.1:=by
 have e:ao ws (fun w=>if h∈kW rows w then F w else 0)=ao ws fun w=>if w∈ (oX rows h).map (fun r=>r.1) then F w else 0:=by
  refine eY fun w _=> ?_;have:h∈kW rows w↔w∈ (oX rows h).map (fun r=>r.1):=by
   rw[fD,List.mem_map];exact⟨fun⟨r,h1,h2,h3⟩=>⟨r,dg.mpr ⟨h1,h3⟩,h2⟩,fun⟨r,h1,h2⟩=>⟨r,(dg.mp h1).1,h2,(dg.mp h1).2⟩⟩
  by_cases q:h∈kW rows w
  ·rw[if_pos q,if_pos (this.mp q)]
  ·rw[if_neg q,if_neg fun z=>q (this.mpr z)]
 rw[e,BK (zyg u h) nw fun w hw=>by
  obtain⟨r,h1,h2⟩:=zF.mp hw;rw[<- h2];exact cw r (dg.mp h1).1,uI]
def oY(rows:List (α×β×Int))(x:β ->Rat)(h:β):Prop:=
 ao (oX rows h) (fun r=>((r.2.2:Rat) - x r.2.1) - ao (bh rows r.1) (fun s=>(s.2.2:Rat) - x s.2.1)/ ((bh rows r.1).length:Rat))=0
def Tv(rows:List (α×β×Int))(x:β ->Rat)(m:List β):Prop:=ao (ofM rows m) (fun r=>x r.2.1)=0
theorem G7{rows:List (α×β×Int)}(u:Uq rows)(x:β ->Rat)(w:α):aW (kW rows w) (fun o=>yW rows w o - x o)=ao (bh rows w) (fun s=>(s.2.2:Rat) - x s.2.1)/ ((bh rows w).length:Rat):=by
 unfold aW;rw[BL,zzc]
 congr 1
 refine eY fun r hr=> ?_;have:=Ks u (aJ.mp hr).1;rw[(aJ.mp hr).2] at this;rw[this]
theorem zw6{rows:List (α×β×Int)}{ws:List α}(u:Uq rows)(nw:ws.Nodup)(cw:∀r∈rows,r.1∈ws)(x:β ->Rat)(h:β)(e:fC (kW rows) (fun w o=>yW rows w o - x o) ws h=0):oY rows x h:=by
 unfold fC at e;rw[zzq u nw cw h] at e;unfold oY;rw[<- e];refine eY fun r hr=> ?_;have hr' :=dg.mp hr;have y:=Ks u hr'.1;rw[hr'.2] at y;rw[G7 u,hr'.2];show _=yW rows r.1 h - x h - _;rw[y]
theorem zyw{rows:List (α×β×Int)}{ws:List α}(u:Uq rows)(nw:ws.Nodup)(cw:∀r∈rows,r.1∈ws)(h:β):dw (ws.map (kW rows)) h=((oX rows h).length:Rat):=by
 unfold dw;rw[uI,zzq u nw cw h,zp];grind
theorem ztk{rows:List (α×β×Int)}{m:List β}(nm:m.Nodup)(sub:∀r∈rows,r.2.1∈m)(f:β ->Rat):ao m (fun h=>((oX rows h).length:Rat)*f h)=ao rows fun r=>f r.2.1:=by
 have e:ao m (fun h=>((oX rows h).length:Rat)*f h)=ao m fun h=>ao rows fun r=>if r.2.1=h then f r.2.1 else 0:=by
  refine eY fun h _=> ?_;rw[<- zp (l:=oX rows h)];unfold oX;rw[uH];refine eY fun r _=> ?_;by_cases q:r.2.1=h
  ·rw[if_pos (decide_eq_true q),if_pos q,q]
  ·rw[if_neg (by simp [q]),if_neg q]
 rw[e,G4];refine eY fun r hr=> ?_;have e2:ao m (fun h=>if r.2.1=h then f r.2.1 else 0)=ao m fun h=>if h∈ [r.2.1] then f r.2.1 else 0:=eY fun h _=>by
  by_cases q:r.2.1=h
  ·rw[if_pos q,if_pos (List.mem_singleton.mpr q.symm)]
  ·rw[if_neg q,if_neg fun z=>q (List.mem_singleton.mp z).symm]
 rw[e2,BK (f:=fun _=>f r.2.1) (by simp) nm fun y hy=>by rw[List.mem_singleton.mp hy];exact sub r hr]
 show f r.2.1+0=_
 grind
structure kZ (rows:List (α×β×Int)) (ws:List α) (m:List β):Prop where
 u:Uq rows
 nw:ws.Nodup
 cw:∀r∈rows,r.1∈ws
 nm:m.Nodup
 sub:∀r∈rows,r.2.1∈m
 on:∀h∈m,∃r∈rows,r.2.1=h
 min:∀C:β ->Prop,(∀w∈ws,(∃x∈kW rows w,C x) ->∀x∈kW rows w,C x) ->(∃x∈m,C x) ->∀x∈m,C x
theorem kZ.sub'{rows:List (α×β×Int)}{ws:List α}{m:List β}(L:kZ rows ws m):∀s∈ws.map (kW rows),∀x∈s,x∈m:=fun s hs x hx=>by
 obtain⟨w,_,rfl⟩:=zF.mp hs;obtain⟨r,h1,_,h3⟩:=fD.mp hx;rw[<- h3];exact L.sub r h1
theorem kZ.ns{rows:List (α×β×Int)}{ws:List α}{m:List β}(L:kZ rows ws m):∀s∈ws.map (kW rows),s.Nodup:=fun s hs=>by
 obtain⟨w,_,rfl⟩:=zF.mp hs;exact Tr L.u w
def fX [Inhabited β](rows:List (α×β×Int))(ws:List α)(m:List β)(i j:Nat):Rat:=
 if j<m.length then(if i=0 then dw (ws.map (kW rows)) (m.getD j default) else bL (ws.map (kW rows)) (m.getD i default) (m.getD j default))
 else if i=0 then 0 else fC (kW rows) (yW rows) ws (m.getD i default)
theorem zv3{γ:Type}[Inhabited γ]{m:List γ}{i:Nat}(h:i<m.length):m.getD i default∈m:=by
 rw[List.getD_eq_getElem?_getD,List.getElem?_eq_getElem h];exact yZ h
theorem zqs [Inhabited β]{rows:List (α×β×Int)}{ws:List α}{m:List β}(x:β ->Rat):bC m.length (fun j=>fX rows ws m 0 j*x (m.getD j default))=ao m fun h=>dw (ws.map (kW rows)) h*x h:=by
 rw[<- zmi];refine wJ fun j hj=> ?_;unfold fX;rw[if_pos hj,if_pos rfl]
theorem zr8 [Inhabited β]{rows:List (α×β×Int)}{ws:List α}{m:List β}(L:kZ rows ws m)(x:β ->Rat){i:Nat}(hi:i<m.length)(h0:i≠0):bC m.length (fun j=>fX rows ws m i j*x (m.getD j default))=iK (ws.map (kW rows)) x (m.getD i default):=by
 rw[<- zte L.ns L.nm L.sub' x (zv3 hi),<- zmi];refine wJ fun j hj=> ?_;unfold fX;rw[if_pos hj,if_neg h0]
theorem zqg [Inhabited β]{m:List β}{h0:β}{hs:List β}(e:m=h0::hs){h:β}(hh:h∈hs):∃i,i<m.length/\i≠0/\m.getD i default=h:=by
 obtain⟨i,hi,q⟩:=List.getElem_of_mem hh;subst e;refine⟨i+1,by simp;omega,by omega,?_⟩
 rw[List.getD_eq_getElem?_getD,List.getElem?_cons_succ,List.getElem?_eq_getElem hi,q];rfl
theorem kZ.null [Inhabited β]{rows:List (α×β×Int)}{ws:List α}{m:List β}(L:kZ rows ws m)(x:β ->Rat)(z:∀i,i<m.length ->bC m.length (fun j=>fX rows ws m i j*x (m.getD j default))=0):∀h∈m,x h=0:=by
 cases em:m with
 | nil=>intro h hh;cases hh
 | cons h0 hs=>
  have nm:=L.nm;have sub:=L.sub';have on:=L.on;have mn:=L.min;rw[em] at nm sub on mn;refine zsu L.ns nm sub (fun h hh=> ?_) (fun C hC=>mn C fun w hw=>hC _ (zF.mpr ⟨w,hw,rfl⟩)) (fun h hh=> ?_) ?_
  ·obtain⟨r,h1,h2⟩:=on h hh;exact⟨kW rows r.1,zF.mpr ⟨r.1,L.cw r h1,rfl⟩,fD.mpr ⟨r,h1,rfl,h2⟩⟩
  ·obtain⟨i,hi,i0,e⟩:=zqg em hh;rw[<- e,<- zr8 L x hi i0];exact z i hi
  ·rw[<- em,<- zqs];exact z 0 (by rw[em];simp)
theorem kZ.ans [Inhabited β]{rows:List (α×β×Int)}{ws:List α}{m:List β}(L:kZ rows ws m)(x:β ->Rat)(z:∀i,i<m.length ->fX rows ws m i m.length=bC m.length (fun j=>fX rows ws m i j*x (m.getD j default))):(∀h∈m,oY rows x h)/\ao rows (fun r=>x r.2.1)=0:=by
 have e0:m≠ [] ->ao rows (fun r=>x r.2.1)=0:=fun ne=>by
  have q:=z 0 (List.length_pos_iff.mpr ne);rw[zqs] at q;unfold fX at q;rw[if_neg (Nat.lt_irrefl _),if_pos rfl] at q;rw[<- ztk L.nm L.sub,q];exact eY fun h _=>by rw[zyw L.u L.nw L.cw]
 cases em:m with
 | nil=>
  refine⟨fun h hh=>(by cases hh),?_⟩
  cases er:rows with
  | nil=>rfl
  | cons r rs=>
   have:=L.sub r (by rw[er];exact zY)
   rw[em] at this;cases this
 | cons h0 hs=>
  refine⟨fun h hh=>zw6 L.u L.nw L.cw x h (zxs (S:=ws) (k:=kW rows) (h0:=h0) (hs:=hs) (fun w _=>Tr L.u w) (em ▸ L.nm) (fun w hw y hy=>by rw[<- em];exact L.sub' _ (zF.mpr ⟨w,hw,rfl⟩) y hy) (yW rows) x (fun g hg=> ?_) h hh),e0 (by rw[em];simp)⟩
  obtain⟨i,hi,i0,e⟩:=zqg em hg;have q:=z i hi;rw[zr8 L x hi i0] at q;unfold fX at q;rw[if_neg (Nat.lt_irrefl _),if_neg i0,e] at q;exact q.symm
end
section
variable{α γ:Type}[DecidableEq γ]
theorem zru{f:α ->Rat}{p:α ->Bool}:∀{l:List α},ao l f=ao (l.filter p) f+ao (l.filter fun a=> !p a) f:=by
 intro l;rw[uH,uH,<- Bx];refine eY fun a _=> ?_;cases p a
 ·simp [Rat.zero_add]
 ·simp [Rat.add_zero]
theorem zvd(key:α ->γ)(g:α ->Rat)(φ:γ ->Rat):∀(n:Nat) (l:List α),l.length<=n ->(∀c,ao (l.filter fun a=>decide (key a=c)) g=0) ->ao l (fun a=>φ (key a)*g a)=0:=by
 intro n;induction n with
 | zero=>
  intro l hl _;obtain rfl:l= []:=List.eq_nil_of_length_eq_zero (by omega)
  rfl
 | succ n ih=>
  intro l hl h;cases l with
  | nil=>rfl
  | cons a r=>
   rw[zru (p:=fun b=>decide (key b=key a))];have e1:ao ((a::r).filter fun b=>decide (key b=key a)) (fun b=>φ (key b)*g b)=0:=by
    have:ao ((a::r).filter fun b=>decide (key b=key a)) (fun b=>φ (key b)*g b)=ao ((a::r).filter fun b=>decide (key b=key a)) (fun b=>φ (key a)*g b):=
     eY fun b hb=>by rw[of_decide_eq_true (List.mem_filter.mp hb).2]
    rw[this,qQ,h,Rat.mul_zero]
   rw[e1,ih]
   ·decide+kernel
   ·have:((a::r).filter fun b=> !decide (key b=key a)).length<=r.length:=by
     rw[List.filter_cons_of_neg (by simp)]
     exact List.length_filter_le _ _
    simp only [List.length_cons] at hl;omega
   ·intro c;rw[List.filter_filter];by_cases e:c=key a
    ·subst e;rw[show(a::r).filter (fun b=>decide (key b=key a)&& !decide (key b=key a))= [] from List.filter_eq_nil_iff.mpr fun b _=>by simp]
     rfl
    ·rw[show(a::r).filter (fun b=>decide (key b=c)&& !decide (key b=key a))=(a::r).filter (fun b=>decide (key b=c)) from List.filter_congr fun b _=>by
      by_cases q:key b=c
      ·simp [q,e]
      ·simp [q]]
     exact h c
theorem z0i{l:List α}{f d:α ->Rat}(o:ao l (fun a=>d a*f a)=0):ao l (fun a=>(f a+d a)* (f a+d a))=ao l (fun a=>f a*f a)+ao l fun a=>d a*d a:=by
 have:ao l (fun a=>(f a+d a)* (f a+d a))=ao l (fun a=>f a*f a+d a*d a+2* (d a*f a)):=eY fun a _=>by grind
 rw[this,Bx,Bx,qQ,o,Rat.mul_zero,Rat.add_zero]
end
section
variable{α β:Type}[DecidableEq α][DecidableEq β]
def bN(rows:List (α×β×Int))(x:β ->Rat)(r:α×β×Int):Rat:=((r.2.2:Rat) - x r.2.1) - ao (bh rows r.1) (fun s=>(s.2.2:Rat) - x s.2.1)/ ((bh rows r.1).length:Rat)
theorem zts(rows:List (α×β×Int))(x:β ->Rat)(w:α):ao (bh rows w) (bN rows x)=0:=by
 have e:ao (bh rows w) (bN rows x)=ao (bh rows w) (fun s=>(s.2.2:Rat) - x s.2.1) - ao (bh rows w) fun _=>ao (bh rows w) (fun s=>(s.2.2:Rat) - x s.2.1)/ ((bh rows w).length:Rat):=by
  rw[<- wK];refine eY fun r hr=> ?_;unfold bN;rw[(aJ.mp hr).2]
 rw[e,zp];by_cases z:bh rows w= []
 ·rw[z];show(0:Rat) - ((0:Nat):Rat)* (0/ ((0:Nat):Rat))=0
  decide+kernel
 ·have n0:((bh rows w).length:Rat)≠0:=fun q=>z (List.eq_nil_of_length_eq_zero (by exact_mod_cast q))
  rw[Rat.div_def,Rat.mul_comm (((bh rows w).length:Rat)),Rat.mul_assoc,Rat.inv_mul_cancel _ n0,Rat.mul_one,Rat.sub_self]
theorem zo0{rows:List (α×β×Int)}{x:β ->Rat}(ev:∀r∈rows,oY rows x r.2.1)(p:α ->Rat)(q:β ->Rat):ao rows (fun r=>(p r.1+q r.2.1)*bN rows x r)=0:=by
 have e:ao rows (fun r=>(p r.1+q r.2.1)*bN rows x r)=ao rows (fun r=>p r.1*bN rows x r)+ao rows fun r=>q r.2.1*bN rows x r:=by
  rw[<- Bx];exact eY fun r _=>by grind
 rw[e,zvd (fun r:α×β×Int=>r.1) (bN rows x) p rows.length rows (Nat.le_refl _) (fun w=>zts rows x w),
  zvd (fun r:α×β×Int=>r.2.1) (bN rows x) q rows.length rows (zO _) fun h=> ?_]
 ·decide+kernel
 ·by_cases z:∃r∈rows,r.2.1=h
  ·obtain⟨r,hr,rfl⟩:=z;exact ev r hr
  ·rw[show rows.filter (fun r=>decide (r.2.1=h))= [] from List.filter_eq_nil_iff.mpr fun r hr=>by
    simp only [decide_eq_true_eq];exact fun e=>z ⟨r,hr,e⟩]
   rfl
theorem zsd{rows:List (α×β×Int)}{x:β ->Rat}(ev:∀r∈rows,oY rows x r.2.1)(p:α ->Rat)(q:β ->Rat){g:α×β×Int ->Rat}(hg:∀r∈rows,g r=bN rows x r+ (p r.1+q r.2.1)):
  ao rows (fun r=>bN rows x r*bN rows x r)<=ao rows (fun r=>g r*g r)/\ (ao rows (fun r=>bN rows x r*bN rows x r)=ao rows (fun r=>g r*g r) ->∀r∈rows,g r=bN rows x r):=by
 have e:ao rows (fun r=>g r*g r)=ao rows (fun r=>bN rows x r*bN rows x r)+ao rows fun r=>(p r.1+q r.2.1)* (p r.1+q r.2.1):=by
  rw[<- z0i (zo0 ev p q)];exact eY fun r hr=>by rw[hg r hr]
 have n:0<=ao rows fun r=>(p r.1+q r.2.1)* (p r.1+q r.2.1):=G5 fun r _=>Kp _;refine⟨by grind,fun z r hr=> ?_⟩
 have z2:ao rows (fun r=>(p r.1+q r.2.1)* (p r.1+q r.2.1))=0:=by grind
 have:=zsi (BJ (fun r _=>Kp _) z2 r hr);rw[hg r hr,this,Rat.add_zero]
end
end HM
namespace L3
open PySem L2 HM
local macro_rules | `(tactic| and_intros)=> `(tactic| dsimp only [aC,dZ,cC,cV,cB,cT,Oh,cOr,xY,nR,uZ,Ei,Jq,aq,aj,jN,jo,fO,Ek,bV,El,iD,aO,gZ,hName,jP,bI,jQ,Ox,yg,aF,cU,j8,rY,d8,jW,bM,fH,cL,u9,Er,gLe,Ar,gGe,gIs,O5,nT,Eu,eG,wI,vX,Aw,rZ,z5z,z5d,mY,Pa,Ew,Pj,Px,List.length,List.set_cons_zero,List.set_cons_succ,List.getElem?_cons_zero,List.getElem?_cons_succ,rW,ur,Fi,z15,Ba,Bb,Bc,Qp,jF,yx,Qu,yD,yC,zwj,pD,Fq,yG,yH,Bg,zyb,Fw,QC,QD,iL,nW,jq,Fj,gj,List.map,List.append,List.cons_append,List.nil_append])
def BP(_:Cls):cD:=fun ds P _=>∃i j,ds= [.int i,.int j]/\P (.int (Int.gcd i j))
def wM(c:Cls):cD:=fun ds P E=>∃i j:Int,ds= [.int i,.int j]/\aU i<=9000/\aU j<=9000/\if j=0 then E (.ref c.bK) else P (qD ((i:Rat)/ (j:Rat)))
def BR(c:Cls):cD:=fun ds P _=>∃a b:Rat,ds= [qD a,qD b]/\Sz 4000 a/\Sz 4000 b/\P (qD (a+b))
def G8(c:Cls):cD:=fun ds P _=>∃a b:Rat,ds= [qD a,qD b]/\Sz 4000 a/\Sz 4000 b/\P (qD (a - b))
def z48(c:Cls):cD:=fun ds P _=>∃a b:Rat,ds= [qD a,qD b]/\Sz 4000 a/\Sz 4000 b/\P (qD (a*b))
def z53(c:Cls):cD:=fun ds P E=>∃a b:Rat,ds= [qD a,qD b]/\Sz 4000 a/\Sz 4000 b/\if b=0 then E (.ref c.bK) else P (qD (a/b))
def z49(c:Cls):cD:=fun ds P _=>∃a b:Rat,ds= [qD a,qD b]/\Sz 4000 a/\Sz 4000 b/\P (.bl (decide (a<b)))
def iu(ns:List Int)(k:Nat):Int:=if h:k<ns.length then ns[k] else
 let m:Int:=if ns= [] then(k:Int)*7919+5 else(ns.getD ((k*7) % ns.length) 0*48271+ (k:Int)*7919).fmod 2147483647
 (m*m).fmod 2147483629
def qR(_:Cls):cD:=fun ds P _=>∃(ns:List Int) (k:Nat),ds= [.lst (ns.map .int),.int k]/\ns.length<=63/\k<1000/\P (.int (iu ns k))
def z3r(_:Cls):cD:=fun ds P _=>∃(x:D) (f:Rat),ds= [x,qD f]/\ (x= .non\/∃g,x=qD g)/\∀b:Bool,(b=true↔x=qD f) ->P (.bl b)
def Ku(_:Cls):cD:=Jw
def dD:List Rat ->Rat | []=>0 | q::qs=>q+dD qs
theorem zom(a b:List Rat):dD (a++b)=dD a+dD b:=by
 induction a with
 | nil=>simp [dD,Rat.zero_add]
 | cons x xs ih=>simp only [List.cons_append,dD,ih,Rat.add_assoc]
def BX(c:Cls):cD:=fun ds P _=>∃qs:List Rat,ds= [.lst (qs.map qD)]/\ (∀q∈qs,Sz 4000 q)/\ (∀k,Sz 4000 (dD (qs.take k)))/\P (qD (dD qs))
def z5j(c:Cls):cD:=fun ds P E=>∃qs:List Rat,ds= [.lst (qs.map qD)]/\qs.length<=1000/\ (∀q∈qs,Sz 4000 q)/\ (∀k,Sz 4000 (dD (qs.take k)))/\if qs= [] then E (.ref c.bK) else P (qD (dD qs/ (qs.length:Int)))
abbrev Mx:=Nat ->Nat ->Int
abbrev Mq:=Nat ->Nat ->Rat
def G9(k s:Nat)(a:Mx):Mx:=fun i=>a (jy k s i)
def bW(m:Nat)(f:Nat ->Int):D:= .lst ((List.range m).map fun j=> .int (f j))
def gR(n m:Nat)(a:Mx):D:= .lst ((List.range n).map fun i=>bW m (a i))
def gA(m:Nat)(f:Nat ->Rat):D:= .lst ((List.range m).map fun j=>qD (f j))
def tD(n m:Nat)(a:Mq):D:= .lst ((List.range n).map fun i=>gA m (a i))
def Kv(q:Rat):Prop:=aU q.num<=400/\aU (q.den:Int)<=16
def Hf(_:Cls):cD:=fun ds P _=>∃(m:Nat) (f:Nat ->Rat),ds= [gA m f]/\m<=13/\ (∀j,j<m ->Kv (f j))/\∀(μ:Int) (g:Nat ->Int),0<μ ->(∀j,j<m ->(g j:Rat)=(μ:Rat)*f j) ->(∀j,aU (g j)<=640) ->P (bW m g)
def Hg(_:Cls):cD:=fun ds P _=>∃(m k:Nat) (f g:Nat ->Int) (p:Int),ds= [bW m f,bW m g,.int k,.int p]/\k<m/\p≠0/\aU p<=9000/\ (∀j,aU (f j)<=9000)/\ (∀j,aU (g j)<=9000)/\P (bW m fun j=>(g k*f j - f k*g j).fdiv p)
def qT(k:Nat)(p:Int)(a:Mx):Mx:=fun i j=>if i=k then a k j else(a k k*a i j - a i k*a k j).fdiv p
def Hh(_:Cls):cD:=fun ds P _=>∃(a:Mx) (n m k:Nat) (p:Int),ds= [gR n m a,.int k,.int p]/\k<n/\k<m/\p≠0/\aU p<=9000/\ (∀i j,i<n ->aU (a i j)<=9000)/\P (gR n m (qT k p a))
def Hi(_:Cls):cD:=fun ds P _=>∃(a:Mx) (n m k s:Nat),ds= [gR n m a,.int k,.int s]/\k<n/\s<n/\P (gR n m (G9 k s a))
def Hj(c:Cls):cD:=fun ds P E=>∃(a:Mx) (n m k:Nat),ds= [gR n m a,.int k]/\n<=1000/\k<n/\k<m/\ (∀s,k<=s ->s<n ->a s k≠0 ->P (gR n m (G9 k s a)))/\ ((∀s,k<=s ->s<n ->a s k=0) ->E (.ref c.dh))
def Sys(n:Nat)(A:Mq)(ds:List D):Prop:=ds= [tD n n A,gA n fun i=>A i n]/\n<=12/\∀i j,i<n ->j<=n ->Kv (A i j)
def Slv(n:Nat)(A:Mq)(x:Nat ->Rat):Prop:=∀r,r<n ->A r n=bC n fun j=>A r j*x j
def Hl(c:Cls):cD:=fun ds P E=>∃(n:Nat) (A:Mq),Sys n A ds/\ (∀(y:Nat ->Rat) (k:Nat),k<n ->y k=1 ->(∀r,r<n ->(bC n fun j=>A r j*y j)=0) ->E (.ref c.dh))/\∀x,Slv n A x ->(∀i,i<n ->Sz 8500 (x i)) ->P (gA n x)
abbrev Rw:=Str×Str×Int
def qj(r:Rw):D:= .tup [.str r.1,.str r.2.1,.int r.2.2]
def aK(rs:List Rw):D:= .lst (rs.map qj)
def lR(rows:List Rw)(w:Str):List Str:=(rows.filter fun r=>decide (r.1=w)).map fun r=>r.2.1
structure Fam (rows:List Rw) (Ss:List (List Str)):Prop where
 of:∀S∈Ss,∃r∈rows,∀x,x∈S↔x∈lR rows r.1
 to:∀r∈rows,∃S∈Ss,∀x,x∈S↔x∈lR rows r.1
structure BZ (rows:List Rw) (ms:List (List Str)):Prop where
 sr:∀m∈ms,m.Pairwise fun a b=>iI a b=true
 up:ms.Pairwise fun a b=>iI (hdS a) (hdS b)=true
 pi:∃Ss,Fam rows Ss/\jx Ss ms
def ql(p:List Str×List D):T:= .dic (p.1.map .inr) (p.2.map .leaf)
structure zq (rows:List Rw) (ws:List Str) (ps:List (List Str×List D)):Prop where
 len:ws.length=ps.length
 nd:ws.Nodup
 lw:ws.length<=rows.length
 wm:∀w,w∈ws↔∃r∈rows,r.1=w
 pt:∀(q:Nat) w p,ws[q]?=some w ->ps[q]?=some p ->p.1.length=p.2.length/\p.1.Nodup/\p.1.length<=rows.length/\∀h,h∈p.1↔h∈lR rows w
 ex:Uq rows ->∀(q:Nat) w p,ws[q]?=some w ->ps[q]?=some p ->p=(kW rows w,(bh rows w).map fun r=> .int r.2.2)
def Ca(_:Cls):qe:=fun ds P _=>∃rows:List Rw,ds= [aK rows]/\rows.length<=1000/\∀ws ps,zq rows ws ps ->P (.dic (ws.map .inr) (ps.map ql))
def Ce(_:Cls):cD:=fun ds P _=>∃g hs:List Str,ds= [gl g,gl hs]/\P (.bl (bx g hs))
def Ho(_:Cls):cD:=fun ds P _=>∃(fs:List (List Str)) (hs U:List Str),ds= [.lst (fs.map gl),gl hs]/\hs.length+fs.flatten.length<4000/\fs.length<4000/\U.length<60/\ (∀x∈hs,x∈U)/\ (∀f∈fs,∀x∈f,x∈U)/\
 ∀g:List Str,g.Pairwise (fun a b=>iI a b=true) ->(∀x,x∈g↔x∈hs\/∃f∈fs,bx f hs=true/\x∈f) ->P (.lst ((fs.filter (fun f=> !bx f hs)++ [g]).map gl))
def Hq(_:Cls):qe:=fun ds P _=>∃(rows:List Rw) (U:List Str),ds= [aK rows]/\rows.length<=1000/\U.length<60/\ (∀r∈rows,r.2.1∈U)/\∀ms,BZ rows ms ->P (.lst ((ms.map gl).map .leaf))
def uJ(rows:List Rw)(w:Str):D:= .dic ((kW rows w).map .inr) ((bh rows w).map fun r=> .int r.2.2)
def jU(rows:List Rw)(ws:List Str):D:= .lst (ws.map (uJ rows))
structure LB (rows:List Rw):Prop where
 few:rows.length<=200
 mm:∀r∈rows,r.2.2.natAbs<2^100
 wk:∀w,(bh rows w).length<=12
def oF(rows:List Rw)(ws:List Str):Prop:=ws.length<=200/\∀w∈ws,bh rows w≠ []
def wN(_:Cls):cD:=fun ds P _=>∃(rows:List Rw) (ws:List Str) (h:Str),ds= [.str h,jU rows ws]/\P (jU rows (ws.filter fun w=>decide (h∈kW rows w)))
def Hr(_:Cls):cD:=fun ds P _=>∃(rows:List Rw) (ws:List Str) (h o:Str),ds= [.str h,.str o,jU rows ws]/\LB rows/\oF rows ws/\P (qD (bL (ws.map (kW rows)) h o))
def Hs(_:Cls):cD:=fun ds P _=>∃(rows:List Rw) (ws m:List Str) (h:Str),ds= [.str h,gl m,jU rows ws]/\LB rows/\oF rows ws/\P (.lst (m.map fun o=>qD (bL (ws.map (kW rows)) h o)))
def Ht(_:Cls):cD:=fun ds P _=>∃(rows:List Rw) (w:Str),ds= [uJ rows w]/\LB rows/\bh rows w≠ []/\P (qD (ao (bh rows w) (fun r=>(r.2.2:Rat))/ ((bh rows w).length:Rat)))
def Hu(_:Cls):cD:=fun ds P _=>∃(rows:List Rw) (ws:List Str) (h:Str),ds= [.str h,jU rows ws]/\Uq rows/\LB rows/\oF rows ws/\P (qD (fC (kW rows) (yW rows) ws h))
def Hv(_:Cls):cD:=fun ds P _=>∃(rows:List Rw) (ws m:List Str),ds= [gl m,jU rows ws]/\kZ rows ws m/\LB rows/\oF rows ws/\m≠ []/\m.length<=12/\
 ∀x:Str ->Rat,(∀h∈m,oY rows x h) ->ao rows (fun r=>x r.2.1)=0 ->(∀h∈m,Sz 8500 (x h)) ->P (.lst (m.map fun h=>qD (x h)))
structure Lean (rows:List Rw) (ms:List (List Str)) (x:Str ->Rat):Prop where
 g:BZ rows ms
 ev:∀m∈ms,∀h∈m,oY rows x h
 em:∀m∈ms,Tv rows x m
 sz:∀m∈ms,∀h∈m,Sz 8500 (x h)
def gB(hs:List Str)(x:Str ->Rat):T:= .dic (hs.map .inr) ((hs.map fun h=>qD (x h)).map .leaf)
def cj(hs:List Str)(x:Str ->Rat):D:= .nO (hs.map .inr) (hs.map fun h=>qD (x h))
def Hw(_:Cls):qe:=fun ds P _=>∃(rows:List Rw) (U:List Str),ds= [aK rows]/\Uq rows/\LB rows/\U.length<=12/\ (∀r∈rows,r.2.1∈U)/\∀ms x,Lean rows ms x ->P (gB ms.flatten x)
def Cg(_:Cls):cD:=fun ds P _=>∃(n:Int) (m:Nat),ds= [.int n,.int m]/\m<=20/\∀xs:List Str,xs.length=m ->xs.Nodup ->P (.lst (xs.map .str))
def Hy(_:Cls):cD:=fun ds P _=>∃a b d e n:Int,ds= [.int a,.int b,.int d,.int e,.int n]/\e≠0/\∀t:Bool,P (.bl t)
def HB(_:Cls):cD:=fun ds P _=>∃(ns:List Int) (hands works:Nat),ds= [.lst (ns.map .int),.int hands,.int works]/\ns.length<=63/\1<=hands/\hands<=5/\works<=8/\
 ∀(rows:List Rw) (U:List Str),rows.length<=40 ->U.length<=hands ->(∀r∈rows,r.2.1∈U) ->Uq rows ->(∀r∈rows,r.2.2.natAbs<2^40) ->P (aK rows)
def HD(_:Cls):cD:=fun ds P _=>∃i j:Int,ds= [.int i,.int j]/\P (.int (Int.gcd i j))
theorem ztp{c:Cls}{ds P E}(h:Ca c ds P E):ds.length=1:=by obtain⟨_,rfl,_⟩:=h;rfl
theorem z4s{c:Cls}{ds P E}(h:Ce c ds P E):ds.length=2:=by obtain⟨_,_,rfl,_⟩:=h;rfl
theorem zwo{c:Cls}{ds P E}(h:Ho c ds P E):ds.length=2:=by obtain⟨_,_,_,rfl,_⟩:=h;rfl
theorem zwl{c:Cls}{ds P E}(h:Hq c ds P E):ds.length=1:=by obtain⟨_,_,rfl,_⟩:=h;rfl
theorem zkl{c:Cls}{ds P E}(h:wN c ds P E):ds.length=2:=by obtain⟨_,_,_,rfl,_⟩:=h;rfl
theorem z2d{c:Cls}{ds P E}(h:Hr c ds P E):ds.length=3:=by obtain⟨_,_,_,_,rfl,_⟩:=h;rfl
theorem zyo{c:Cls}{ds P E}(h:Hs c ds P E):ds.length=3:=by obtain⟨_,_,_,_,rfl,_⟩:=h;rfl
theorem zou{c:Cls}{ds P E}(h:Ht c ds P E):ds.length=1:=by obtain⟨_,_,rfl,_⟩:=h;rfl
theorem zw1{c:Cls}{ds P E}(h:Hu c ds P E):ds.length=2:=by obtain⟨_,_,_,rfl,_⟩:=h;rfl
theorem zhr{c:Cls}{ds P E}(h:Hv c ds P E):ds.length=2:=by obtain⟨_,_,_,rfl,_⟩:=h;rfl
theorem zrq{c:Cls}{ds P E}(h:Hw c ds P E):ds.length=1:=by obtain⟨_,_,rfl,_⟩:=h;rfl
theorem zok{c:Cls}{ds P E}(h:Cg c ds P E):ds.length=2:=by obtain⟨_,_,rfl,_⟩:=h;rfl
theorem zmq{c:Cls}{ds P E}(h:Hy c ds P E):ds.length=5:=by obtain⟨_,_,_,_,_,rfl,_⟩:=h;rfl
theorem zrx{c:Cls}{ds P E}(h:HB c ds P E):ds.length=3:=by obtain⟨_,_,_,rfl,_⟩:=h;rfl
theorem zlu{c:Cls}{ds P E}(h:HD c ds P E):ds.length=2:=by obtain⟨_,_,rfl,_⟩:=h;rfl
def tE(x:Str ->Rat)(B:Int)(h:Str):Int:=(x h).num*B.fdiv ((x h).den:Int)
def pI(rows:List Rw)(x:Str ->Rat)(B:Int)(w:Str):Int:=((bh rows w).map fun r=>r.2.2*B - tE x B r.2.1).sum
def cO(rows:List Rw)(x:Str ->Rat)(B:Int)(r:Rw):Int:=12* (r.2.2*B - tE x B r.2.1) - (12:Int).fdiv ((bh rows r.1).length:Int)*pI rows x B r.1
def bZ(B:Int)(a b:Str ->Int)(r:Rw):Int:=2*B* (6*r.2.2 - (a r.1+b r.2.1))
def HF(_:Cls):cD:=fun ds P _=>∃(rows:List Rw) (hs:List Str) (x:Str ->Rat) (B:Int),ds= [aK rows,cj hs x,.int B]/\hs.Nodup/\hs.length<=60/\ (∀h∈hs,Sz 8500 (x h))/\LB rows/\ (∀r∈rows,r.2.1∈hs)/\ (∀r∈rows,(bh rows r.1).length∣12)/\
 0<B/\ (∀h∈hs,((x h).den:Int)∣B)/\aU B<=600000/\P (.lst (rows.map fun r=> .int (cO rows x B r)))
def HJ(_:Cls):cD:=fun ds P _=>∃n m:Int,ds= [.int n,.int m]/\m.natAbs<2^100/\∀k:Int,aU k<=200 ->P (.int k)
def HN(_:Cls):cD:=fun ds P _=>∃(ns:List Int) (rows:List Rw) (B:Int),ds= [.lst (ns.map .int),aK rows,.int B]/\ns.length<=63/\LB rows/\aU B<=600000/\
 ∀a b:Str ->Int,(∀w,aU (a w)<=200) ->(∀h,aU (b h)<=200) ->P (.lst (rows.map fun r=> .int (bZ B a b r)))
theorem zga{c:Cls}{ds P E}(h:HF c ds P E):ds.length=3:=by obtain⟨_,_,_,_,rfl,_⟩:=h;rfl
theorem zmx{c:Cls}{ds P E}(h:HJ c ds P E):ds.length=2:=by obtain⟨_,_,rfl,_⟩:=h;rfl
theorem zg0{c:Cls}{ds P E}(h:HN c ds P E):ds.length=3:=by obtain⟨_,_,_,rfl,_⟩:=h;rfl
def Tw(K:W.Frag)(c:Cls):au:=(aO 7 (cB d8 (cV 7) (cB eG (cV 2) (cB cL (cB d8 (cV 9) (cB bM (cV 6) (j8 Bg (aj (nR (cB nT (cV 8) (cV 4)) (cB Eu (cB cL (cV 0) (cC (.int 3))) (cC (.int 1)))) aq)))) (cC (.int 26))))))
def Tz(K:W.Frag)(c:Cls):au:=(aC (aO 9 (cB cL (cB d8 (cB d8 (cB bM (cB fH (cV 0) (cC (.int 24))) (cC (.int 48271))) (cB bM (cB bM (cV 8) (cV 8)) (cC (.int 69621)))) (cB bM (cV 8) (cC (.int 7)))) (cC (.int 2147483647))))
 (Tw K c))
def zg6(K:W.Frag)(c:Cls):au:=(yD 5 yC (aj (cV 7) aq))
def zdo(K:W.Frag)(c:Cls):au:=(aC (mj (aj (cB d8 (cV 3) (cB bM (cV 6) (j8 Bg (aj (cB nT (cB cL (cV 0) (cC (.int 3))) (cC (.int 1))) aq)))) aq) (hName 8)
 (Tz K c))
 (zg6 K c))
def TF(K:W.Frag)(c:Cls):au:=(aC (aO 7 (cC (.str (Str.ofString ""))))
 (zdo K c))
def zjd(K:W.Frag)(c:Cls):au:=(bV (cV 5))
def zfg(K:W.Frag)(c:Cls):au:=(aC (mj (aj (cV 1) aq) (hName 6)
 (TF K c))
 (zjd K c))
def zff(K:W.Frag)(c:Cls):au:=(aC (gZ 5 (jo aq))
 (zfg K c))
def TJ(K:W.Frag)(c:Cls):au:=(aC (aO 4 (cB cL (cB fH (cV 0) (cC (.int 24))) (cV 3)))
 (zff K c))
def zfb(K:W.Frag)(c:Cls):au:=(aC (iD (cT (cB nT (cB cL (cV 0) (cC (.int 3))) (cC (.int 1))))
 (aO 3 (cC (.int 1)))
 dZ)
 (TJ K c))
def zfi(K:W.Frag)(c:Cls):au:=(aC (aO 3 (cB d8 (cC (.int 1)) (cB cL (cB fH (cV 0) (cC (.int 3))) (cC (.int 8)))))
 (zfb K c))
def Kw(K:W.Frag)(c:Cls):au:=(aC (aO 2 (cC (.str (Str.ofString "abcdefghijklmnopqrstuvwxyz"))))
 (zfi K c))
def zkf(K:W.Frag)(c:Cls):au:=(bV (cB cL (cB bM (cV 2) (cV 2)) (cC (.int 2147483629))))
def zkx(K:W.Frag)(c:Cls):au:=(aC (iD (cT (cB Ar (j8 rZ (aj (cV 0) aq)) (cC (.int 0))))
 (aO 2 (cB cL (cB d8 (cB bM (cB eG (cV 0) (cB cL (cB bM (cV 1) (cC (.int 7))) (j8 rZ (aj (cV 0) aq)))) (cC (.int 48271))) (cB bM (cV 1) (cC (.int 7919)))) (cC (.int 2147483647))))
 dZ)
 (zkf K c))
def zkr(K:W.Frag)(c:Cls):au:=(aC (aO 2 (cB d8 (cB bM (cV 1) (cC (.int 7919))) (cC (.int 5))))
 (zkx K c))
def zic(K:W.Frag)(c:Cls):au:=(aC (iD (cT (cB Er (cV 1) (j8 rZ (aj (cV 0) aq))))
 (bV (cB eG (cV 0) (cV 1)))
 dZ)
 (zkr K c))
def ziv(K:W.Frag)(c:Cls):au:=(bV (cC (.bl true)))
def zez(K:W.Frag)(c:Cls):au:=(aC (iD (cT (cB nT (cV 0) (cC (.int 2))))
 (bV (nR (cB nT (cB cL (cV 1) (cC (.int 2))) (cB cL (cV 2) (cC (.int 2)))) (cB Ar (cB cL (cV 4) (cC (.int 4))) (cC (.int 0)))))
 dZ)
 (ziv K c))
def zek(K:W.Frag)(c:Cls):au:=(aC (iD (cT (cB nT (cV 0) (cC (.int 1))))
 (bV (uZ (cB nT (cV 2) (cB cL (cV 1) (cV 3))) (cB nT (cV 2) (cB cL (cB d8 (cV 1) (cC (.int 1))) (cV 3)))))
 dZ)
 (zez K c))
def Ky(K:W.Frag)(c:Cls):au:=(aC (iD (cT (cB nT (cV 0) (cC (.int 0))))
 (bV (cB Ar (cB cL (cV 4) (cC (.int 3))) (cC (.int 0))))
 dZ)
 (zek K c))
def zee(K:W.Frag)(c:Cls):au:=(iD (cT (aF (Hy c) (aj (cV 3) (aj (cV 8) (aj (cV 9) (aj (cV 1) (aj (cV 10) aq)))))))
 (yD 7 yC (aj (jN (aj (cB eG (cV 5) (cV 8)) (aj (cB eG (cV 6) (cV 9)) (aj (cB cL (cB fH (cV 10) (cC (.int 12))) (cV 4)) aq)))) aq))
 dZ)
def TQ(K:W.Frag)(c:Cls):au:=(aC (aO 10 (aF (qR c) (aj (cV 0) (aj (cB d8 (cB d8 (cC (.int 6)) (cB bM (cV 8) (cV 1))) (cV 9)) aq))))
 (zee K c))
def TV(K:W.Frag)(c:Cls):au:=(mj (aj (cV 1) aq) (hName 9)
 (TQ K c))
def zf6(K:W.Frag)(c:Cls):au:=(bV (fO (pD (fO (Bc (cV 7) (Bb (cV 11)) Ba)) (fO (Bc (cV 7) Ba (Bb (cV 11)))))))
def zfw(K:W.Frag)(c:Cls):au:=(aC (aO 11 (cB cL (cB fH (aF (qR c) (aj (cV 0) (aj (cC (.int 3)) aq))) (cC (.int 4))) (cB d8 (jF (j8 rZ (aj (cV 7) aq))) (cC (.int 1)))))
 (zf6 K c))
def zgd(K:W.Frag)(c:Cls):au:=(aC (mj (aj (cV 2) aq) (hName 8)
 (TV K c))
 (zfw K c))
def zft(K:W.Frag)(c:Cls):au:=(aC (gZ 7 (jo aq))
 (zgd K c))
def zgg(K:W.Frag)(c:Cls):au:=(aC (aO 6 (aF (Cg c) (aj (aF (qR c) (aj (cV 0) (aj (cC (.int 5)) aq))) (aj (cV 1) aq))))
 (zft K c))
def TX(K:W.Frag)(c:Cls):au:=(aC (aO 5 (aF (Cg c) (aj (aF (qR c) (aj (cV 0) (aj (cC (.int 4)) aq))) (aj (cV 2) aq))))
 (zgg K c))
def zf9(K:W.Frag)(c:Cls):au:=(aC (aO 4 (cB eG (fO (jo (aj (cC (.int 10)) (aj (cC (.int 4)) (aj (cC (.int 10)) (aj (cB u9 (cC (.int 10)) (cC (.int 12))) aq)))))) (cB cL (aF (qR c) (aj (cV 0) (aj (cC (.int 3)) aq))) (cC (.int 4)))))
 (TX K c))
def Kz(K:W.Frag)(c:Cls):au:=(aC (aO 3 (cB cL (aF (qR c) (aj (cV 0) (aj (cC (.int 2)) aq))) (cC (.int 4))))
 (zf9 K c))
def zv2(K:W.Frag)(c:Cls):au:=(bV (j8 Qt (aj (fO (cH 1 [0] (iL (cV 1)) (hName 0) gj (cB (Fq false) (cV 0) (cV 1)))) aq)))
def zlz(K:W.Frag)(c:Cls):au:=(iD (cT (aF (Ce c) (aj (cV 4) (aj (cV 1) aq))))
 (yD 3 Qy (aj (cV 4) aq))
 dZ)
def zi8(K:W.Frag)(c:Cls):au:=(bV (fO (pD (cV 2) (fO (jo (aj (fO (ur J7 (aj (cV 3) aq))) aq))))))
def zo8(K:W.Frag)(c:Cls):au:=(aC (mV (cV 0) (hName 4)
 (zlz K c))
 (zi8 K c))
def zoh(K:W.Frag)(c:Cls):au:=(aC (gZ 3 (ur Fi (aj (cV 1) aq)))
 (zo8 K c))
def zmy(K:W.Frag)(c:Cls):au:=(aC (aO 2 (fO (cH 1 [1] (iL (cV 0)) (hName 0) (xY (cT (aF (Ce c) (aj (cV 0) (aj (cV 1) aq))))) (cV 0))))
 (zoh K c))
def zeu(K:W.Frag)(c:Cls):au:=(Gu 1 2 3 (cV 4))
def zkh(K:W.Frag)(c:Cls):au:=(aC (iD (Gq 1 (cV 2))
 (Gs 1 2 Bo)
 dZ)
 (zeu K c))
def zhj(K:W.Frag)(c:Cls):au:=(qd (nV 1))
def zmz(K:W.Frag)(c:Cls):au:=(aC (mV (cV 0) (jQ 3 (bI (hName 2) (bI (hName 3) (bI (hName 4) jP))))
 (zkh K c))
 (zhj K c))
def zjy(K:W.Frag)(c:Cls):au:=(aC (mC 1 Bo)
 (zmz K c))
def zmt(K:W.Frag)(c:Cls):au:=(aO 1 (aF (Ho c) (aj (cV 1) (aj (fO (ur RM (aj (cV 2) aq))) aq))))
def zoe(K:W.Frag)(c:Cls):au:=(qd (YM (ur RL (aj (cV 1) aq))))
def zn0(K:W.Frag)(c:Cls):au:=(aC (nW (Zo (pF (Ca c) (aj (cV 0) aq))) (hName 2)
 (zmt K c))
 (zoe K c))
def zl0(K:W.Frag)(c:Cls):au:=(aC (aO 1 (fO (jo aq)))
 (zn0 K c))
def zh6(K:W.Frag)(c:Cls):au:=(aO 1 (cV 2))
def ziu(K:W.Frag)(c:Cls):au:=(aC (aO 0 (cV 1))
 (zh6 K c))
def zls(K:W.Frag)(c:Cls):au:=(aC (aO 2 (cB cL (cV 0) (cV 1)))
 (ziu K c))
def znd(K:W.Frag)(c:Cls):au:=(bV (j8 Aw (aj (cV 0) aq)))
def zj3(K:W.Frag)(c:Cls):au:=(aC (pC (cT (cB Eu (cV 1) (cC (.int 0))))
 (zls K c))
 (znd K c))
def zh5(K:W.Frag)(c:Cls):au:=(aO 1 (cB bM (cV 1) (cB fH (cB eG (cV 2) (cC (.int 1))) (aF (BP c) (aj (cV 1) (aj (cB eG (cV 2) (cC (.int 1))) aq))))))
def zi9(K:W.Frag)(c:Cls):au:=(bV (fO (cH 1 [1] (iL (cV 0)) (hName 0) gj (cB bM (cB eG (cV 0) (cC (.int 0))) (cB fH (cV 1) (cB eG (cV 0) (cC (.int 1))))))))
def zja(K:W.Frag)(c:Cls):au:=(aC (mV (cV 0) (hName 2)
 (zh5 K c))
 (zi9 K c))
def zhl(K:W.Frag)(c:Cls):au:=(aC (aO 1 (cC (.int 1)))
 (zja K c))
def zjr(K:W.Frag)(c:Cls):au:=(bV (fO (cH 2 [0,1,2,3] (FP (aj (cV 0) (aj (cV 1) aq))) (jQ 2 (bI (hName 0) (bI (hName 1) jP))) gj (cB fH (cB jW (cB bM (cB eG (cV 3) (cV 4)) (cV 0)) (cB bM (cB eG (cV 2) (cV 4)) (cV 1))) (cV 5)))))
def znm(K:W.Frag)(c:Cls):au:=(bV (fO (cH 2 [1,2,3] (Fw (aj (cV 0) aq)) (jQ 2 (bI (hName 0) (bI (hName 1) jP))) gj (Jq (cT (cB nT (cV 0) (cV 2))) (cV 1) (aF (Hg c) (aj (cV 1) (aj (cV 4) (aj (cV 2) (aj (cV 3) aq)))))))))
def zjm(K:W.Frag)(c:Cls):au:=(aC (aO 3 (cB eG (cV 0) (cV 1)))
 (znm K c))
def zke(K:W.Frag)(c:Cls):au:=(bV (jN (aj (cB fH (cV 0) (cV 2)) (aj (cB fH (cV 1) (cV 2)) aq))))
def zk2(K:W.Frag)(c:Cls):au:=(aC (iD (cT (cB Er (cV 1) (cC (.int 0))))
 (aO 2 (cU rY (cV 2)))
 dZ)
 (zke K c))
def zkv(K:W.Frag)(c:Cls):au:=(aC (aO 2 (aF (BP c) (aj (cV 0) (aj (cV 1) aq))))
 (zk2 K c))
def zi4(K:W.Frag)(c:Cls):au:=(aC (iD (cT (cB nT (cV 1) (cC (.int 0))))
 (mY c.bK (aj (cC (.str (Str.ofString "the bottom of a fraction is not 0"))) aq))
 dZ)
 (zkv K c))
def zje(K:W.Frag)(c:Cls):au:=(bV (cV 3))
def zjg(K:W.Frag)(c:Cls):au:=(aC (yK 3 (cV 2) (cB eG (cV 0) (cV 1)))
 (zje K c))
def zjh(K:W.Frag)(c:Cls):au:=(aC (yK 3 (cV 1) (cB eG (cV 0) (cV 2)))
 (zjg K c))
def zhf(K:W.Frag)(c:Cls):au:=(aC (gZ 3 (ur Fi (aj (cV 0) aq)))
 (zjh K c))
def zvk(K:W.Frag)(c:Cls):au:=(iD (cT (cB Eu (cB eG (cB eG (cV 0) (cV 2)) (cV 1)) (cC (.int 0))))
 (bV (aF (Hi c) (aj (cV 0) (aj (cV 1) (aj (cV 2) aq)))))
 dZ)
def zx8(K:W.Frag)(c:Cls):au:=(mY c.dh (aj (cC (.str (Str.ofString "the system has no answer, or several"))) aq))
def zzt(K:W.Frag)(c:Cls):au:=(aC (vW (aj (cV 1) (aj (j8 rZ (aj (cV 0) aq)) aq)) (hName 2)
 (zvk K c))
 (zx8 K c))
def zjf(K:W.Frag)(c:Cls):au:=(aO 3 (cB eG (cB eG (cV 2) (cV 4)) (cV 4)))
def znq(K:W.Frag)(c:Cls):au:=(aC (aO 2 (aF (Hh c) (aj (aF (Hj c) (aj (cV 2) (aj (cV 4) aq))) (aj (cV 4) (aj (cV 3) aq)))))
 (zjf K c))
def zpa(K:W.Frag)(c:Cls):au:=(bV (fO (cH 2 [] (Fw (aj (cV 2) aq)) (jQ 2 (bI (hName 0) (bI (hName 1) jP))) gj (aF (wM c) (aj (cB eG (cV 1) (cU rY (cC (.int 1)))) (aj (cB eG (cV 1) (cV 0)) aq))))))
def zo9(K:W.Frag)(c:Cls):au:=(aC (mj (aj (j8 rZ (aj (cV 2) aq)) aq) (hName 4)
 (znq K c))
 (zpa K c))
def zib(K:W.Frag)(c:Cls):au:=(aC (aO 3 (cC (.int 1)))
 (zo9 K c))
def zng(K:W.Frag)(c:Cls):au:=(aC (aO 2 (fO (cH 2 [] (FP (aj (cV 0) (aj (cV 1) aq))) (jQ 2 (bI (hName 0) (bI (hName 1) jP))) gj (aF (Hf c) (aj (fO (pD (cV 0) (fO (jo (aj (cV 1) aq))))) aq)))))
 (zib K c))
def zfa(K:W.Frag)(c:Cls):au:=(bV (fO (cH 1 [0] (iL (cV 1)) (hName 0) (cT (cB (GD false) (cV 1) (cV 0))) (cV 0))))
def zva(K:W.Frag)(c:Cls):au:=(bV (aF (wM c) (aj (cB d8 (cB bM (cB eG (cV 0) (cC (.int 0))) (cB eG (cV 1) (cC (.int 1)))) (cB bM (cB eG (cV 1) (cC (.int 0))) (cB eG (cV 0) (cC (.int 1))))) (aj (cB bM (cB eG (cV 0) (cC (.int 1))) (cB eG (cV 1) (cC (.int 1)))) aq))))
def zo6(K:W.Frag)(c:Cls):au:=(aO 1 (aF (BR c) (aj (cV 1) (aj (cV 2) aq))))
def zrm(K:W.Frag)(c:Cls):au:=(bV (cV 1))
def zrf(K:W.Frag)(c:Cls):au:=(aC (mV (cV 0) (hName 2)
 (zo6 K c))
 (zrm K c))
def zqn(K:W.Frag)(c:Cls):au:=(aC (aO 1 (jN (aj (cC (.int 0)) (aj (cC (.int 1)) aq))))
 (zrf K c))
def zjq(K:W.Frag)(c:Cls):au:=(bV (Jq (cT (cB nT (cV 0) (cV 1))) (aF (BR c) (aj (jN (aj (j8 rZ (aj (cV 3) aq)) (aj (cC (.int 1)) aq))) (aj (cV 4) aq))) (cV 4)))
def TY(K:W.Frag)(c:Cls):au:=(aC (aO 4 (aF (BX c) (aj (fO (cH 1 [] (iL (cV 3)) (hName 0) gj (jN (aj (cU rY (cC (.int 1))) (aj (j8 J9 (aj (cV 0) aq)) aq))))) aq)))
 (zjq K c))
def zqd(K:W.Frag)(c:Cls):au:=(aC (aO 3 (aF (wN c) (aj (cV 1) (aj (aF (wN c) (aj (cV 0) (aj (cV 2) aq))) aq))))
 (TY K c))
def zmh(K:W.Frag)(c:Cls):au:=(bV (fO (cH 1 [0,2] (iL (cV 1)) (hName 0) gj (aF (Hr c) (aj (cV 1) (aj (cV 0) (aj (cV 2) aq)))))))
def zp3(K:W.Frag)(c:Cls):au:=(bV (aF (wM c) (aj (cB jW (cB bM (cB eG (cV 0) (cC (.int 0))) (cB eG (cV 1) (cC (.int 1)))) (cB bM (cB eG (cV 1) (cC (.int 0))) (cB eG (cV 0) (cC (.int 1))))) (aj (cB bM (cB eG (cV 0) (cC (.int 1))) (cB eG (cV 1) (cC (.int 1)))) aq))))
def zhi(K:W.Frag)(c:Cls):au:=(bV (aF (wM c) (aj (wC (cV 0)) (aj (j8 J9 (aj (cV 0) aq)) aq))))
def T3(K:W.Frag)(c:Cls):au:=(bV (aF (BX c) (aj (fO (cH 1 [0] (iL (aF (wN c) (aj (cV 0) (aj (cV 1) aq)))) (hName 0) gj (aF (G8 c) (aj (jN (aj (cB gq (cV 0) (cV 1)) (aj (cC (.int 1)) aq))) (aj (aF (Ht c) (aj (cV 0) aq)) aq))))) aq)))
def zco(K:W.Frag)(c:Cls):au:=(bV (aF (Hl c) (aj (fO (pD (fO (jo (aj (cV 4) aq))) (cV 2))) (aj (fO (pD (fO (jo (aj (jN (aj (cC (.int 0)) (aj (cC (.int 1)) aq))) aq))) (cV 3))) aq))))
def zcy(K:W.Frag)(c:Cls):au:=(aC (aO 4 (fO (cH 1 [1] (iL (cV 0)) (hName 0) gj (jN (aj (j8 rZ (aj (aF (wN c) (aj (cV 0) (aj (cV 1) aq))) aq)) (aj (cC (.int 1)) aq))))))
 (zco K c))
def zfm(K:W.Frag)(c:Cls):au:=(aC (aO 3 (fO (cH 1 [1] (iL (fO (Bc (cV 0) (Bb (cC (.int 1))) Ba))) (hName 0) gj (aF (Hu c) (aj (cV 0) (aj (cV 1) aq))))))
 (zcy K c))
def zdn(K:W.Frag)(c:Cls):au:=(aC (aO 2 (fO (cH 1 [0,1] (iL (fO (Bc (cV 0) (Bb (cC (.int 1))) Ba))) (hName 0) gj (aF (Hs c) (aj (cV 0) (aj (cV 1) (aj (cV 2) aq)))))))
 (zfm K c))
def zfc(K:W.Frag)(c:Cls):au:=(vG 1 (cV 4) (cV 5))
def zed(K:W.Frag)(c:Cls):au:=(nW (FP (aj (cV 2) (aj (aF (Hv c) (aj (cV 2) (aj (cV 3) aq))) aq))) (jQ 2 (bI (hName 4) (bI (hName 5) jP)))
 (zfc K c))
def zfh(K:W.Frag)(c:Cls):au:=(aC (aO 3 (fO (tu (aF (vo (Ca c)) (aj (fO (cH 1 [2] (iL (cV 0)) (hName 0) (cT (cB (Fq false) (cB eG (cV 0) (cC (.int 1))) (cV 1))) (cV 0))) aq)))))
 (zed K c))
def zlq(K:W.Frag)(c:Cls):au:=(qd (nV 1))
def zf8(K:W.Frag)(c:Cls):au:=(aC (mV (aF (vo (Hq c)) (aj (cV 0) aq)) (hName 2)
 (zfh K c))
 (zlq K c))
def zh8(K:W.Frag)(c:Cls):au:=(aC (mC 1 Bo)
 (zf8 K c))
def zbo(K:W.Frag)(c:Cls):au:=(vG 4 (cV 5) (jF (cB d8 (sZ (cV 4) (cV 5) (cC (.int 0))) (cC (.int 1)))))
def zbk(K:W.Frag)(c:Cls):au:=(aC (vG 3 (cV 5) (jF (cB jW (cB d8 (sZ (cV 3) (cV 5) (cC (.int 0))) (cB bM (cV 7) (cV 2))) (cV 8))))
 (zbo K c))
def zeh(K:W.Frag)(c:Cls):au:=(aC (aO 8 (cB bM (cB eG (cB gq (cV 1) (cV 6)) (cC (.int 0))) (cB fH (cV 2) (cB eG (cB gq (cV 1) (cV 6)) (cC (.int 1))))))
 (zbk K c))
def T4(K:W.Frag)(c:Cls):au:=(yD 9 yC (aj (cB jW (cB bM (cC (.int 12)) (cB jW (cB bM (cV 7) (cV 2)) (cV 8))) (cV 10)) aq))
def zbm(K:W.Frag)(c:Cls):au:=(aC (aO 10 (jF (cB bM (cB fH (cC (.int 12)) (cB gq (cV 4) (cV 5))) (cB gq (cV 3) (cV 5)))))
 (T4 K c))
def zef(K:W.Frag)(c:Cls):au:=(aC (aO 8 (cB bM (cB eG (cB gq (cV 1) (cV 6)) (cC (.int 0))) (cB fH (cV 2) (cB eG (cB gq (cV 1) (cV 6)) (cC (.int 1))))))
 (zbm K c))
def zev(K:W.Frag)(c:Cls):au:=(bV (cV 9))
def zb6(K:W.Frag)(c:Cls):au:=(aC (mV (cV 0) (jQ 3 (bI (hName 5) (bI (hName 6) (bI (hName 7) jP))))
 (zef K c))
 (zev K c))
def zes(K:W.Frag)(c:Cls):au:=(aC (gZ 9 (jo aq))
 (zb6 K c))
def zb3(K:W.Frag)(c:Cls):au:=(aC (mV (cV 0) (jQ 3 (bI (hName 5) (bI (hName 6) (bI (hName 7) jP))))
 (zeh K c))
 (zes K c))
def zb4(K:W.Frag)(c:Cls):au:=(aC (mC 4 Bo)
 (zb3 K c))
def zct(K:W.Frag)(c:Cls):au:=(aC (mC 3 Bo)
 (zb4 K c))
def T5(K:W.Frag)(c:Cls):au:=(bV (cB fH (cB bM (cV 2) (cC (.int 6))) (cB d8 (cC (.int 1)) (cB cL (cB fH (cV 0) (cC (.int 3))) (cC (.int 3))))))
def T6(K:W.Frag)(c:Cls):au:=(aC (aO 2 (cB eG (fO (jo (aj (cB jW (cB cL (cB fH (cV 0) (cC (.int 9))) (cC (.int 19))) (cC (.int 9))) (aj (cV 1) (aj (cB cL (cB fH (cV 0) (cC (.int 9))) (cB u9 (cC (.int 10)) (cC (.int 12)))) aq))))) (cB cL (cV 0) (cC (.int 3)))))
 (T5 K c))
def zca(K:W.Frag)(c:Cls):au:=(iD (GC true 3 9)
 (aC (aO 10 (aF (qR c) (aj (cV 0) (aj (cB d8 (cC (.int 30)) (cV 4)) aq))))
 (aC (wB 3 9 (aF (HJ c) (aj (cV 10) (aj (cB bM (cV 8) (j8 Bg (aj (cB nT (jF (cB eG (cV 9) (cC (.int 0)))) (cC (.str (Str.ofString "work")))) aq))) aq))))
 (aO 4 (cB d8 (cV 4) (cC (.int 1))))))
 dZ)
def zbt(K:W.Frag)(c:Cls):au:=(yD 5 yC (aj (cB bM (cB bM (cC (.int 2)) (cV 2)) (cB jW (cB bM (cC (.int 6)) (cV 8)) (cV 11))) aq))
def KC(K:W.Frag)(c:Cls):au:=(aC (aO 11 (jF (cB d8 (cB vB (cV 3) (jN (aj (cC (.str (Str.ofString "work"))) (aj (cV 6) aq)))) (cB vB (cV 3) (jN (aj (cC (.str (Str.ofString "hand"))) (aj (cV 7) aq)))))))
 (zbt K c))
def zcb(K:W.Frag)(c:Cls):au:=(aC (wF 9 (aj (cC (.str (Str.ofString "work"))) (aj (cV 6) aq)) (aj (cC (.str (Str.ofString "hand"))) (aj (cV 7) aq))
 (zca K c))
 (KC K c))
def ze8(K:W.Frag)(c:Cls):au:=(bV (cV 5))
def zch(K:W.Frag)(c:Cls):au:=(aC (mV (cV 1) (jQ 3 (bI (hName 6) (bI (hName 7) (bI (hName 8) jP))))
 (zcb K c))
 (ze8 K c))
def zcf(K:W.Frag)(c:Cls):au:=(aC (gZ 5 (jo aq))
 (zch K c))
def zcg(K:W.Frag)(c:Cls):au:=(aC (aO 4 (cC (.int 0)))
 (zcf K c))
def zc7(K:W.Frag)(c:Cls):au:=(aC (mC 3 ZG)
 (zcg K c))
def zg3(K:W.Frag)(c:Cls):au:=(yg 0 1 (aj (cV 1) (aj (cB cL (cV 0) (cV 1)) aq)))
def zhq(K:W.Frag)(c:Cls):au:=(bV (cV 0))
def zhp(K:W.Frag)(c:Cls):au:=(aC (pC (cT (cB Ar (cV 1) (cC (.int 0))))
 (zg3 K c))
 (zhq K c))
def zhn(K:W.Frag)(c:Cls):au:=(aC (aO 1 (j8 Aw (aj (cV 1) aq)))
 (zhp K c))
def ze9(K:W.Frag)(c:Cls):au:=(aC (aO 0 (j8 Aw (aj (cV 0) aq)))
 (zhn K c))
def zmv(K:W.Frag)(c:Cls):au:=(aO 3 (cB bM (cV 3) (cB fH (cB eG (cB gq (cV 2) (cV 4)) (cC (.int 1))) (aF (HD c) (aj (cV 3) (aj (cB eG (cB gq (cV 2) (cV 4)) (cC (.int 1))) aq))))))
def zv9(K:W.Frag)(c:Cls):au:=(bV (uZ (cB Er (cV 7) (cV 8)) (nR (cB nT (cV 7) (cV 8)) (cB nT (cV 5) (cV 6)))))
def zyy(K:W.Frag)(c:Cls):au:=(aC (aO 8 (j8 JK (aj (fO (cH 1 [] (iL (cV 6)) (hName 0) gj (cB bM (cV 0) (cV 0)))) aq)))
 (zv9 K c))
def zpt(K:W.Frag)(c:Cls):au:=(aC (aO 7 (j8 JK (aj (fO (cH 1 [] (iL (cV 5)) (hName 0) gj (cB bM (cV 0) (cV 0)))) aq)))
 (zyy K c))
def zwu(K:W.Frag)(c:Cls):au:=(aC (aO 6 (aF (HN c) (aj (cV 0) (aj (cV 1) (aj (cV 3) aq)))))
 (zpt K c))
def zq1(K:W.Frag)(c:Cls):au:=(aC (aO 5 (aF (HF c) (aj (cV 1) (aj (cV 2) (aj (cV 3) aq)))))
 (zwu K c))
def zpc(K:W.Frag)(c:Cls):au:=(aC (nW (Z4 (cV 2)) (hName 4)
 (zmv K c))
 (zq1 K c))
def zqm(K:W.Frag)(c:Cls):au:=(aC (aO 3 (cC (.int 1)))
 (zpc K c))
def zqt(K:W.Frag)(c:Cls):au:=(aC (aO 2 (wD (pF (Hw c) (aj (cV 1) aq))))
 (zqm K c))
def HS(K:W.Frag)(c:Cls):au:=(aC (aO 1 (aF (HB c) (aj (cV 0) (aj (cB d8 (cC (.int 1)) (cB cL (aF (qR c) (aj (cV 0) (aj (cC (.int 0)) aq))) (cC (.int 4)))) (aj (cB cL (aF (qR c) (aj (cV 0) (aj (cC (.int 1)) aq))) (cC (.int 7))) aq)))))
 (zqt K c))
theorem zub{c:Cls}{ds P E}(h:BP c ds P E):ds.length=2:=by obtain⟨_,_,rfl,_⟩:=h;rfl
theorem zrl{c:Cls}{ds P E}(h:wM c ds P E):ds.length=2:=by obtain⟨_,_,rfl,_⟩:=h;rfl
theorem z25{c:Cls}{ds P E}(h:BR c ds P E):ds.length=2:=by obtain⟨_,_,rfl,_⟩:=h;rfl
theorem z16{c:Cls}{ds P E}(h:G8 c ds P E):ds.length=2:=by obtain⟨_,_,rfl,_⟩:=h;rfl
abbrev fin(Q:D ->Prop):jm:={nx:=fun _=>Q .non,rt:=Q}
theorem zsl{K:W.Frag}{c:Cls}{ds Q Ex}(h:BP c ds Q Ex):zj3 K c (fin Q) (aH 3 ds) fun _=>Ex:=by
 obtain⟨i,j,rfl,h⟩:=h;refine⟨fun m Γ=>∃a b r,Γ= [.pu (.int a),.pu (.int b),r]/\m=b.natAbs/\Int.gcd a b=Int.gcd i j,⟨_,i,j,.no,rfl,rfl,rfl⟩,?_⟩;rintro m _ ⟨a,b,r,rfl,rfl,hg⟩;refine⟨rfl,?_⟩;by_cases hb:b=0
 ·subst hb;have:(!eF (.int 0) (.int 0))=false:=by simp [eF]
  rw[this];show Q (.int (if a<0 then -a else a));have e:(if a<0 then -a else a)=((Int.gcd i j:Nat):Int):=by
   rw[<- hg,Int.gcd_zero_right];split<;>omega
  rw[e];exact h
 ·have:(!eF (.int b) (.int 0))=true:=by simp [eF,hb]
  rw[this];exact⟨hb,_,S5 hb,b,a.fmod b,.pu (.int (a.fmod b)),rfl,rfl,by rw[zpj,hg]⟩
theorem zv4{i j:Int}(hj:j≠0):dv i j≠0/\∀n,aU i<=n ->aU j<=n ->aU (dv i j)<=n:=by
 refine⟨GJ hj,fun n h1 h2=>zP (rC ?_) h2⟩;obtain⟨k,e⟩:=zs4 i j;have h:=congrArg Int.natAbs e;rw[Int.natAbs_mul] at h;rw[h];have:k≠0:=fun z=>hj (by rw[e,z,Int.mul_zero])
 exact Nat.le_mul_of_pos_right _ (by omega)
theorem zrj{K:W.Frag}{c:Cls}{ds Q Ex}(h:wM c ds Q Ex):zi4 K c (fin Q) (aH 3 ds) fun _=>Ex:=by
 obtain⟨i,j,rfl,b1,b2,h⟩:=h;refine⟨rfl,?_⟩;by_cases hj:j=0
 ·subst hj;have:eF (.int 0) (.int 0)=true:=by simp [eF]
  rw[this];exact⟨by decide,h⟩
 ·have:eF (.int j) (.int 0)=false:=by simp [eF,hj]
  rw[this];rw[if_neg hj,<- z6b hj] at h;refine⟨i,j,rfl,?_⟩;obtain⟨d0,d1⟩:=zv4 (i:=i) hj;show if decide (j<0)=true then _ else _;by_cases hn:j<0
  ·rw[if_pos (by simpa using hn)]
   have e:dv i j= -((Int.gcd i j:Nat):Int):=by unfold dv;rw[if_pos hn]
   exact⟨⟨by rw[<- e];exact d0,by rw[<- e];exact d1 _ b1 b2⟩,⟨by rw[<- e];exact d0,by rw[<- e];exact d1 _ b1 b2⟩,by show(2:Nat)<=sizeLine;decide,by rw[<- e];exact h⟩
  ·rw[if_neg (by simpa using hn)]
   have e:dv i j=((Int.gcd i j:Nat):Int):=by unfold dv;rw[if_neg hn]
   exact⟨⟨by rw[<- e];exact d0,by rw[<- e];exact d1 _ b1 b2⟩,⟨by rw[<- e];exact d0,by rw[<- e];exact d1 _ b1 b2⟩,by show(2:Nat)<=sizeLine;decide,by rw[<- e];exact h⟩
theorem at0{x y:D}:jE [x,y] 0=some x:=uR (j:=0) rfl
theorem at1{x y:D}:jE [x,y] 1=some y:=uR (j:=1) rfl
theorem qU{i j:Int}(h1:aU i<=4000)(h2:aU j<=4000):j6 i j:= .inr (.inr (by omega))
theorem qW{i j:Int}(h1:aU i<=4000)(h2:aU j<=4000):aU (i*j)<=8000:=by have:=qK i j;omega
theorem T7{i j:Int}(h1:aU i<=8000)(h2:aU j<=8000):aU (i+j)<=9000:=by have:=Eo i j;omega
theorem T8{i j:Int}(h1:aU i<=8000)(h2:aU j<=8000):aU (i - j)<=9000:=by have:=Ep i j;omega
theorem up9{i:Int}(h1:aU i<=8000):aU i<=9000:=by omega
theorem z3d{K:W.Frag}{c:Cls}{ds Q Ex}(h:BR c ds Q Ex):zva K c (fin Q) (aH 2 ds) fun _=>Ex:=by
 obtain⟨a,b,rfl,⟨a1,a2⟩,⟨b1,b2⟩,h⟩:=h;refine⟨_,at0,_,at1,qU a1 b2,_,at0,_,at1,qU b1 a2,_,at1,_,at1,qU a2 b2,_,_,rfl,T7 (qW a1 b2) (qW b1 a2),up9 (qW a2 b2),?_⟩;rw[if_neg (zj4 a b),<- z4o];exact h
theorem z1h{K:W.Frag}{c:Cls}{ds Q Ex}(h:G8 c ds Q Ex):zp3 K c (fin Q) (aH 2 ds) fun _=>Ex:=by
 obtain⟨a,b,rfl,⟨a1,a2⟩,⟨b1,b2⟩,h⟩:=h;refine⟨_,at0,_,at1,qU a1 b2,_,at0,_,at1,qU b1 a2,_,at1,_,at1,qU a2 b2,_,_,rfl,T8 (qW a1 b2) (qW b1 a2),up9 (qW a2 b2),?_⟩;rw[if_neg (zj4 a b),<- z3j];exact h
theorem tG:(1000:Nat)<sizeLine:=by decide
theorem wO{i m:Int}(hm:0<m):0<=i.fmod m/\i.fmod m<m:=by
 rw[Int.fmod_eq_emod_of_nonneg _ (by omega)]
 exact⟨Int.emod_nonneg _ (by omega),Int.emod_lt_of_pos _ hm⟩
theorem Ci(i j:Int):eF (.int i) (.int j)=decide (i=j):=by
 simp only [eF];by_cases h:i=j<;>simp [h]
theorem zu{i:Int}{n:Nat}(h:0<n):∃k:Nat,i.fmod (n:Int)=(k:Int)/\k<n:=by
 have:=wO (i:=i) (m:=(n:Int)) (by omega)
 exact⟨(i.fmod (n:Int)).toNat,by omega,by omega⟩
theorem zrr{c:Cls}{ds P E}(h:qR c ds P E):ds.length=2:=by obtain⟨_,_,rfl,_⟩:=h;rfl
theorem z6a{c:Cls}{ds P E}(h:Ku c ds P E):ds.length=1:=by obtain⟨_,rfl,_⟩:=h;rfl
theorem zq6{K:W.Frag}{c:Cls}{ds Q Ex}(h:qR c ds Q Ex):zic K c (fin Q) (aH 3 ds) fun _=>Ex:=by
 obtain⟨ns,k,rfl,hl,hk,h⟩:=h;show if decide ((k:Int)< ((ns.map D.int).length:Int))=true then _ else _;rw[List.length_map];by_cases hlt:k<ns.length
 ·rw[if_pos (by simpa using hlt)]
  refine⟨.int ns[k],uR (by simp [hlt]),?_⟩
  unfold iu at h;rw[dif_pos hlt] at h;exact h
 ·rw[if_neg (by simpa using hlt)]
  unfold iu at h;rw[dif_neg hlt] at h;have bk:aU (k:Int)<=10:=eU (by simp only [Int.natAbs_natCast];omega)
  refine⟨.inr (.inl (eU (by decide))),?_⟩
  show if decide ((0:Int)< ((ns.map D.int).length:Int))=true then _ else _;rw[List.length_map];have fin2:∀m:Int,m.natAbs<2^40 ->Q (.int ((m*m).fmod 2147483629)) ->j6 m m/\ (2147483629:Int)≠0/\Q (.int ((m*m).fmod 2147483629)):=fun m hm hq=>
   ⟨.inl (zP (eU hm) (by decide)),by decide,hq⟩
  by_cases he:ns= []
  ·subst he;rw[if_neg (by simp)]
   rw[if_pos rfl] at h;exact fin2 _ (by omega) h
  ·have hp:0<ns.length:=(by cases ns with | nil=>exact absurd rfl he | cons _ _=>exact Nat.succ_pos _)
   rw[if_pos (by simpa using hp)]
   rw[if_neg he] at h;refine⟨.inr (.inl (eU (by decide))),show((ns.map D.int).length:Int)≠0 by rw[List.length_map];omega,?_⟩
   have hm:((k:Int)*7).fmod ((ns.map D.int).length:Int)=((k*7 % ns.length:Nat):Int):=by
    rw[List.length_map,Int.fmod_eq_emod_of_nonneg _ (by omega),Int.natCast_emod,Int.natCast_mul]
    rfl
   and_intros
   rw[hm];have hlt2:k*7 % ns.length<ns.length:=Nat.mod_lt _ hp;refine⟨.int (ns.getD (k*7 % ns.length) 0),uR (by simp [List.getElem?_map,List.getD_eq_getElem?_getD,hlt2]),?_⟩
   refine⟨.inr (.inl (eU (by decide))),.inr (.inl (eU (by decide))),by decide,?_⟩
   refine fin2 _ ?_ h;have h1:=S5 (a:=ns.getD (k*7 % ns.length) 0*48271+ (k:Int)*7919) (b:=2147483647) (by decide)
   exact Nat.lt_trans h1 (by decide)
theorem z0r{c:Cls}{ds P E}(h:BX c ds P E):ds.length=1:=by obtain⟨_,rfl,_⟩:=h;rfl
theorem z2c{K:W.Frag}{c:Cls}{ds Q Ex}(h:BX c ds Q Ex):zqn K c (fin Q) (aH 3 ds) fun _=>Ex:=by
 obtain⟨qs,rfl,s1,s2,h⟩:=h;refine⟨by show(2:Nat)<=sizeLine;decide,fun i Γ=>∃x,Γ= [.pu (.lst (qs.map qD)),.pu (qD (dD (qs.take i))),x],⟨_,rfl⟩,?_,?_⟩
 ·rintro i x _ hi ⟨y,rfl⟩;rw[List.getElem?_map] at hi;cases q:qs[i]? with
  | none=>rw[q] at hi;cases hi
  | some a=>
   rw[q] at hi;cases hi;refine⟨_,_,rfl,s2 i,s1 a (zA q),.pu (qD a),?_⟩;rw[List.take_add_one,q,zom];simp only [Option.toList_some,dD,Rat.add_zero]
   rfl
 ·rintro _ ⟨y,rfl⟩;have h' :=h;rw[List.length_map,List.take_length];exact h'
theorem HW{n:Nat}{f:Nat ->D}{i:Nat}(h:i<n):((List.range n).map f)[i]?=some (f i):=by simp [h]
theorem uK{n:Nat}{f:Nat ->D}{i:Nat}(h:i<n):jE ((List.range n).map f) (i:Int)=some (f i):=uR (HW h)
theorem zvu{n:Nat}(f g:Nat ->D):jT ((List.range n).map f) ((List.range n).map g)=(List.range n).map fun i=> .tup [f i,g i]:=by
 unfold jT;apply List.ext_getElem
 ·simp
 ·intro i h1 h2;simp
theorem zzs{n:Nat}(f:Nat ->D):uD 0 ((List.range n).map f)=(List.range n).map fun i=> .tup [.int (i:Nat),f i]:=by
 apply List.ext_getElem?;intro i;rw[QL];by_cases h:i<n
 ·rw[HW h,HW h];simp
 ·simp [h]
theorem zmu{one:D ->(List D ->Prop) ->Prop}{f g:Nat ->D}:∀{is:List Nat} {P:List D ->Prop},(∀i∈is,∀P:List D ->Prop,P [g i] ->one (f i) P) ->P (is.map g) ->bJ one (is.map f) P
 | [],_,_,h=>h
 | i::is,P,k,h=>k i zY _ (zmu (fun y hy=>k y (zX _ hy)) h)
theorem KD{one:D ->(List D ->Prop) ->Prop}{f g:Nat ->D}{n:Nat}{P:List D ->Prop}(k:∀i,i<n ->∀P:List D ->Prop,P [g i] ->one (f i) P)(h:P ((List.range n).map g)):bJ one ((List.range n).map f) P:=
 zmu (fun i hi=>k i (List.mem_range.mp hi)) h
theorem T9{m:Nat}{f g:Nat ->Int}(h:∀j,j<m ->f j=g j):bW m f=bW m g:=by
 unfold bW
 congr 1
 exact List.map_congr_left fun j hj=>by rw[h j (List.mem_range.mp hj)]
theorem zrd{n m:Nat}{a b:Mx}(h:∀i j,i<n ->j<m ->a i j=b i j):gR n m a=gR n m b:=by
 unfold gR
 congr 1
 exact List.map_congr_left fun i hi=>T9 fun j hj=>h i j (List.mem_range.mp hi) hj
theorem zoa{c:Cls}{ds P E}(h:Hf c ds P E):ds.length=1:=by obtain⟨_,_,rfl,_⟩:=h;rfl
theorem zn3{c:Cls}{ds P E}(h:Hi c ds P E):ds.length=3:=by obtain⟨_,_,_,_,_,rfl,_⟩:=h;rfl
theorem z5k{c:Cls}{ds P E}(h:Hj c ds P E):ds.length=2:=by obtain⟨_,_,_,_,rfl,_⟩:=h;rfl
theorem ztz{c:Cls}{ds P E}(h:Hg c ds P E):ds.length=4:=by obtain⟨_,_,_,_,_,rfl,_⟩:=h;rfl
theorem zu9{c:Cls}{ds P E}(h:Hh c ds P E):ds.length=3:=by obtain⟨_,_,_,_,_,rfl,_⟩:=h;rfl
theorem zwv{c:Cls}{ds P E}(h:Hl c ds P E):ds.length=2:=by obtain⟨_,_,⟨rfl,_⟩,_⟩:=h;rfl
theorem zti{K:W.Frag}{c:Cls}{ds Q Ex}(h:Hg c ds Q Ex):zjr K c (fin Q) (aH 4 ds) fun _=>Ex:=by
 obtain⟨m,k,f,g,p,rfl,hk,p0,bp,bf,bg,h⟩:=h;show bJ _ (jT ((List.range m).map fun j=> .int (f j)) ((List.range m).map fun j=> .int (g j))) _;rw[zvu];refine KD (g:=fun j=> .int ((g k*f j - f k*g j).fdiv p)) (fun j hj P hP=> ?_) h;have b1:=bg k;have b2:=bf j;have b3:=bf k;have b4:=bg j;exact⟨rfl,rfl,.int (g k),uK hk,.inr (.inr (by omega)),.int (f k),uK hk,.inr (.inr (by omega)),⟨p0,bp⟩,hP⟩
theorem zvx{K:W.Frag}{c:Cls}{ds Q Ex}(h:Hh c ds Q Ex):zjm K c (fin Q) (aH 4 ds) fun _=>Ex:=by
 obtain⟨a,n,m,k,p,rfl,hk,hkm,p0,bp,ba,h⟩:=h;refine⟨bW m (a k),uK hk,?_⟩;show bJ _ (uD 0 ((List.range n).map fun i=>bW m (a i))) _;rw[zzs];refine KD (g:=fun i=>bW m (qT k p a i)) (fun i hi P hP=> ?_) h;refine⟨rfl,rfl,rfl,?_⟩;rw[Ci];by_cases e:i=k
 ·subst e;rw[decide_eq_true rfl];have:bW m (qT i p a i)=bW m (a i):=T9 fun j _=>if_pos rfl;rw[this] at hP;exact hP
 ·rw[decide_eq_false (by omega)]
  have:bW m (qT k p a i)=bW m fun j=>(a k k*a i j - a i k*a k j).fdiv p:=T9 fun j _=>if_neg e;rw[this] at hP;exact⟨m,k,a i,a k,p,rfl,hkm,p0,bp,fun j=>ba i j hi,fun j=>ba k j hk,hP⟩
theorem zz7{n:Nat}(f:Nat ->D){k s:Nat}(hk:k<n)(hs:s<n):(((List.range n).map f).set k (f s)).set s (f k)=(List.range n).map fun i=>f (jy k s i):=by
 apply List.ext_getElem
 ·simp
 ·intro i h1 h2;simp only [List.getElem_set,List.getElem_map,List.getElem_range];unfold jy;by_cases e1:s=i
  ·subst e1;by_cases e2:k=s
   ·subst e2;simp
   ·rw[if_pos rfl,if_neg (by omega),if_pos rfl]
  ·rw[if_neg e1];by_cases e2:k=i
   ·subst e2;rw[if_pos rfl,if_pos rfl]
   ·rw[if_neg e2,if_neg (by omega),if_neg (by omega)]
theorem zr3{n k:Nat}(h:k<n):qC n (k:Int)=some k:=by
 unfold qC;rw[if_pos (by omega),if_pos (by omega)];simp
theorem zpb{K:W.Frag}{c:Cls}{ds Q Ex}(h:Hi c ds Q Ex):zhf K c (fin Q) (aH 4 ds) fun _=>Ex:=by
 obtain⟨a,n,m,k,s,rfl,hk,hs,h⟩:=h;refine⟨bW m (a s),uK hs,⟨_,rfl⟩,k,zr3 (by simp [hk]),bW m (a k),uK hk,⟨_,rfl⟩,s,zr3 (by simp [hs]),?_⟩
 have e:=zz7 (fun i=>bW m (a i)) hk hs;show Q (.lst ((((List.range n).map fun i=>bW m (a i)).set k (bW m (a s))).set s (bW m (a k))));rw[e];exact h
theorem z5x{K:W.Frag}{c:Cls}{ds Q Ex}(h:Hj c ds Q Ex):zzt K c (fin Q) (aH 3 ds) fun _=>Ex:=by
 obtain⟨a,n,m,k,rfl,hn,hk,hm,h1,h2⟩:=h;have el:((List.range n).map fun i=>bW m (a i)).length=n:=by simp
 show((-(2^62):Int)<=(k:Int)/\ (k:Int)<2^62/\ (-(2^62):Int)<=((((List.range n).map fun i=>bW m (a i)).length:Nat):Int)/\ ((((List.range n).map fun i=>bW m (a i)).length:Nat):Int)<2^62)/\rQ (k:Int) (((((List.range n).map fun i=>bW m (a i)).length:Nat):Int) - (k:Int)).toNat _ _ _ _ _;rw[el,show((n:Int) - (k:Int)).toNat=n - k by omega]
 refine⟨⟨by omega,by omega,by omega,by omega⟩,fun i Γ=>∃y:Slot,Γ= [.pu (gR n m a),.pu (.int k),y]/\∀s,k<=s ->s<k+i ->a s k=0,⟨_,rfl,fun s hs hs' =>by omega⟩,?_,?_⟩
 ·rintro i _ hi ⟨y,rfl,hz⟩;have e0:(k:Int)+ (i:Int)=((k+i:Nat):Int):=by omega
  have hlt:k+i<n:=by omega
  refine⟨bW m (a (k+i)),?_,.int (a (k+i) k),uK hm,rfl,?_⟩
  ·show jE ((List.range n).map fun i=>bW m (a i)) ((k:Int)+ (i:Int))=_;rw[e0];exact uK hlt
  rw[Ci];by_cases ez:a (k+i) k=0
  ·rw[decide_eq_true ez];refine⟨_,rfl,fun s hs hs' => ?_⟩;by_cases es:s=k+i
   ·rw[es];exact ez
   ·exact hz s hs (by omega)
  ·rw[decide_eq_false ez];refine⟨a,n,m,k,k+i,?_,hk,hlt,h1 _ (by omega) hlt ez⟩
   show [gR n m a,.int k,.int ((k:Int)+ (i:Int))]=_;rw[e0]
 ·rintro _ ⟨y,rfl,hz⟩;exact⟨by show(1:Nat)<=sizeLine;decide,h2 fun s hs hs' =>hz s hs (by omega)⟩
theorem zso(q:Rat):((q.num:Int):Rat)=q* ((q.den:Int):Rat)/\ ((q.den:Int):Rat)≠0:=by
 have hd:((q.den:Int):Rat)≠0:=by
  have:=q.den_pos
  exact_mod_cast (show(q.den:Int)≠0 by omega)
 have e:((q.num:Int):Rat)/ ((q.den:Int):Rat)=q:=by
  have:=Rat.num_divInt_den q;rw[Rat.divInt_eq_div] at this;exact this
 refine⟨?_,hd⟩;rw[Rat.div_def] at e;have:=congrArg (· * ((q.den:Int):Rat)) e;simp only [Rat.mul_assoc,Rat.inv_mul_cancel _ hd,Rat.mul_one] at this;exact this
theorem zpw{μ d:Int}(hμ:0<μ)(hd:0<d):(Int.gcd μ d:Int)≠0/\0<μ*d.fdiv (Int.gcd μ d:Int)/\μ∣μ*d.fdiv (Int.gcd μ d:Int)/\d∣μ*d.fdiv (Int.gcd μ d:Int)/\ (d.fdiv (Int.gcd μ d:Int)).natAbs<=d.natAbs/\ (Int.gcd μ d:Int).natAbs<=d.natAbs:=by
 have g0:Int.gcd μ d≠0:=fun z=>by have:=(Int.gcd_eq_zero_iff.mp z).2;omega
 have gd:(Int.gcd μ d:Int)∣d:=Int.gcd_dvd_right ..;have gm:(Int.gcd μ d:Int)∣μ:=Int.gcd_dvd_left ..;have e:=wG gd;obtain⟨u,eu⟩:=gm;have gp:(0:Int)< (Int.gcd μ d:Int):=by omega
 generalize (Int.gcd μ d:Int)=g at*;generalize d.fdiv g=t at*;have tp:0<t:=by
  rcases Int.lt_or_le 0 t with h | h
  ·exact h
  ·have:=Int.mul_nonpos_of_nonneg_of_nonpos (by omega:0<=g) h
   omega
 refine⟨by omega,Int.mul_pos hμ tp,⟨t,rfl⟩,⟨u,?_⟩,?_,?_⟩
 ·rw[eu,<- e];ac_rfl
 ·rw[<- e,Int.natAbs_mul];exact Nat.le_mul_of_pos_left _ (by omega)
 ·rw[<- e,Int.natAbs_mul];exact Nat.le_mul_of_pos_right _ (by omega)
theorem zo4{K:W.Frag}{c:Cls}{ds Q Ex}(h:Hf c ds Q Ex):zhl K c (fin Q) (aH 3 ds) fun _=>Ex:=by
 obtain⟨m,f,rfl,hm,hz,h⟩:=h;refine⟨fun i Γ=>∃(μ:Int) (y:Slot),Γ= [.pu (gA m f),.pu (.int μ),y]/\0<μ/\aU μ<=16*i+1/\∀j,j<i ->j<m ->((f j).den:Int)∣μ,⟨1,_,rfl,by decide,by decide,fun j hj=>by omega⟩,?_,?_⟩
 ·rintro i d _ hi ⟨μ,y,rfl,hμ,bμ,hd⟩;have him:i<m:=by
   have:=(zW.mp hi).1
   simpa using this
  rw[HW him] at hi;cases hi;have dp:(0:Int)< (f i).den:=by have:=(f i).den_pos;omega
  obtain⟨g0,p1,p2,p3,p4,p5⟩:=zpw hμ dp;have zi:=(hz i him).2;have b4:=zP (rC p4) zi;have b5:=zP (rC p5) zi;have bm:=qK μ ((f i).den.cast (R:=Int) |>.fdiv (Int.gcd μ (f i).den:Int))
  refine⟨_,at1,_,at1,μ,(f i).den,rfl,⟨g0,by omega⟩,.inr (.inr (by omega)),_,_,rfl,p1,by omega,fun j hj hjm=> ?_⟩
  by_cases e:j=i
  ·subst e;exact p3
  ·exact Int.dvd_trans (hd j (by omega) hjm) p2
 ·rintro _ ⟨μ,y,rfl,hμ,bμ,hd⟩;have el:((List.range m).map fun j=>qD (f j)).length=m:=by simp
  rw[el] at bμ hd
  let g:Nat ->Int:=fun j=>if j<m then(f j).num*μ.fdiv ((f j).den:Int) else 0
  have gv:∀j,j<m ->g j=(f j).num*μ.fdiv ((f j).den:Int):=fun j hj=>by show(if j<m then _ else _)=_;rw[if_pos hj]
  have bt:∀j,j<m ->aU (μ.fdiv ((f j).den:Int))<=aU μ:=fun j hj=>by
   refine rC ?_;have e:=congrArg Int.natAbs (wG (hd j hj hj));rw[Int.natAbs_mul] at e;rw[<- e];exact Nat.le_mul_of_pos_left _ (by have:=(f j).den_pos;omega)
  show bJ _ ((List.range m).map fun j=>qD (f j)) _;refine KD (g:=fun j=> .int (g j)) (fun j hj P hP=> ?_) (h μ g hμ (fun j hj=> ?_) fun j=> ?_)
  ·have z:=hz j hj;have b:=bt j hj;refine⟨_,at0,_,at1,⟨by have:=(f j).den_pos;omega,by have:=z.2;omega⟩,.inr (.inr (by have:=z.1;omega)),?_⟩
   show P [.int ((f j).num*μ.fdiv ((f j).den:Int))];rw[<- gv j hj];exact hP
  ·rw[gv j hj];have e:=wG (hd j hj hj);obtain⟨n1,n2⟩:=zso (f j);have e' :(μ:Rat)=((f j).den:Int)* (μ.fdiv ((f j).den:Int):Int):=by exact_mod_cast e.symm
   rw[Rat.intCast_mul,n1,e']
   grind
  ·by_cases hj:j<m
   ·rw[gv j hj];have:=qK (f j).num (μ.fdiv ((f j).den:Int));have:=bt j hj;have:=(hz j hj).1;omega
   ·show aU (if j<m then _ else 0)<=_;rw[if_neg hj];exact Nat.zero_le _
theorem znr{α:Type}[Inhabited α]{one:D ->(List D ->Prop) ->Prop}{f:Nat ->D}(F:Nat ->α ->D)(Good:Nat ->α ->Prop):∀{n s:Nat} {P:List D ->Prop},(∀i,s<=i ->i<s+n ->∀P:List D ->Prop,(∀a,Good i a ->P [F i a]) ->one (f i) P) ->(∀as:Nat ->α,(∀i,s<=i ->i<s+n ->Good i (as i)) ->P ((List.range' s n).map fun i=>F i (as i))) ->bJ one ((List.range' s n).map f) P
 | 0,s,P,_,h=>h (fun _=>default) fun i h1 h2=>by omega
 | n+1,s,P,k,h=>by
  rw[List.range'_succ];refine k s (by omega) (by omega) _ fun a ha=> ?_
  refine znr F Good (fun i h1 h2=>k i (by omega) (by omega)) fun as has=> ?_
  have:=h (fun i=>if i=s then a else as i) fun i h1 h2=>by
   by_cases e:i=s
   ·subst e;simpa using ha
   ·simp only [if_neg e];exact has i (by omega) (by omega)
  rw[List.range'_succ,List.map_cons,if_pos rfl] at this;have e:(List.range' (s+1) n).map (fun i=>F i (if i=s then a else as i))=(List.range' (s+1) n).map fun i=>F i (as i):=List.map_congr_left fun i hi=>by
   have:=List.mem_range'_1.mp hi;rw[if_neg (by omega)]
  rw[e] at this;exact this
theorem zr0{α:Type}[Inhabited α]{one:D ->(List D ->Prop) ->Prop}{f:Nat ->D}(F:Nat ->α ->D)(Good:Nat ->α ->Prop){n:Nat}{P:List D ->Prop}(k:∀i,i<n ->∀P:List D ->Prop,(∀a,Good i a ->P [F i a]) ->one (f i) P)(h:∀as:Nat ->α,(∀i,i<n ->Good i (as i)) ->P ((List.range n).map fun i=>F i (as i))):bJ one ((List.range n).map f) P:=by
 rw[List.range_eq_range'];refine znr F Good (fun i _ h2=>k i (by omega)) fun as has=> ?_
 rw[<- List.range_eq_range'];exact h as fun i hi=>has i (by omega) (by omega)
theorem z42{n:Nat}{f:Nat ->D}:jE ((List.range (n+1)).map f) (-1)=some (f n):=by
 have e:qC ((List.range (n+1)).map f).length (-1)=some n:=by
  rw[List.length_map,List.length_range];unfold qC;rw[if_neg (by decide),if_pos (by omega)]
  congr 1;omega
 unfold jE;rw[e];exact HW (by omega)
theorem KH{z:Int}{e k:Nat}(h:z.natAbs<=(16*2^e)^k):aU z<=(e+4)*k+1:=by
 refine eU (zM h ?_);rw[show(16:Nat)*2^e=2^ (e+4) by rw[Nat.pow_add,Nat.mul_comm],<- Nat.pow_mul]
 exact Nat.pow_lt_pow_right (by decide) (by omega)
theorem Ua{f g:Nat ->Rat}(t:Rat):∀{m:Nat},(∀j,j<m ->f j=t*g j) ->bC m f=t*bC m g
 | 0,_=>by unfold bC;grind
 | m+1,h=>by unfold bC;rw[Ua t fun j hj=>h j (by omega),h m (by omega)];grind
theorem zw3{K:W.Frag}{c:Cls}{ds Q Ex}(h:Hl c ds Q Ex):zng K c (fin Q) (aH 5 ds) fun _=>Ex:=by
 obtain⟨n,A,⟨rfl,hn,hz⟩,hE,hP⟩:=h;have s1:=tG;show bJ _ (jT ((List.range n).map fun i=>gA n (A i)) ((List.range n).map fun i=>qD (A i n))) _;rw[zvu];refine zr0 (α:=Nat ->Int) (fun _ g=>bW (n+1) g) (fun i g=>(∀j,aU (g j)<=640)/\∃μ:Int,0<μ/\∀j,j<n+1 ->(g j:Rat)=(μ:Rat)*A i j) (fun i hi P hP=> ?_) (fun as has=> ?_)
 ·refine⟨rfl,rfl,by show(1:Nat)<=sizeLine;decide,?_,n+1,A i,?_,by omega,fun j hj=>hz i j hi (by omega),fun μ g h0 h1 h2=>hP g ⟨h2,μ,h0,h1⟩⟩
  ·show((List.range n).map fun j=>qD (A i j)).length+1<=sizeLine;simp only [List.length_map,List.length_range];omega
  ·show [D.lst (((List.range n).map fun j=>qD (A i j))++ [qD (A i n)])]= [gA (n+1) (A i)];unfold gA;rw[List.range_succ,List.map_append];rfl
 change zib K c (fin Q) [.pu (tD n n A),.pu (gA n fun i=>A i n),.pu (gR n (n+1) as),.no,.no] fun _=>Ex
 have ba:∀k,k<n ->∀j,(as k j).natAbs<=2^640:=fun k hk j=>Nat.le_of_lt (yh ((has k hk).1 j));have hμ:∃μ:Nat ->Rat,∀i,i<n ->μ i≠0/\∀j,j<n+1 ->(as i j:Rat)=μ i*A i j:=by
  refine⟨fun i=>if h:i<n then((has i h).2.choose:Int) else 1,fun i hi=> ?_⟩;simp only [dif_pos hi];have sp:=(has i hi).2.choose_spec;refine⟨?_,fun j hj=>sp.2 j hj⟩;have:=sp.1;intro z;have:(has i hi).2.choose=0:=by exact_mod_cast z
  omega
 obtain⟨μ,hμ⟩:=hμ;have el:((List.range n).map fun i=>bW (n+1) (as i)).length=n:=by simp
 show((-(2^62):Int)<=((((List.range n).map fun i=>bW (n+1) (as i)).length:Nat):Int)/\_)/\rQ 0 (Int.toNat ((((List.range n).map fun i=>bW (n+1) (as i)).length:Nat):Int)) _ _ _ _ _;rw[el,Int.toNat_natCast];have mx:∀k,k<=13 ->(640+4)*k+1<=8500:=fun k hk=>by omega
 have h1:1<=16*2^640:=Nat.mul_pos (by decide) (Nat.pow_pos (by decide))
 refine⟨⟨by omega,by omega⟩,fun k Γ=>∃(d:Int) (tb:Mx) (rs:List Row) (fs:Nat ->Row) (ix:Nat ->Nat) (y:Slot),Γ= [.pu (tD n n A),.pu (gA n fun i=>A i n),.pu (gR n (n+1) tb),.pu (.int d),y]/\BT n as k d tb rs fs ix,⟨1,as,_,_,_,_,rfl,zx7 n as⟩,?_,?_⟩
 ·rintro k _ hk ⟨d,tb,rs,fs,ix,y,rfl,bt⟩;have e0:(0+ (k:Int))=((k:Nat):Int):=by omega
  have bd:aU d<=8500:=zP (KH (bt.lead (N:=16) ba (by omega))) (mx k (by omega))
  have be:∀i j,i<n ->aU (tb i j)<=8500:=fun i j hi=>zP (KH (bt.small (N:=16) ba (by omega) h1 hi j)) (mx (k+1) (by omega))
  refine⟨tb,n,n+1,k,?_,by omega,hk,by omega,fun s hs hsn hne=> ?_,fun hall=> ?_⟩
  ·show [gR n (n+1) tb,.int (0+ (k:Int))]=_;rw[e0]
  ·obtain⟨rs',fs',zm,bt'⟩:=bt.step hs hsn hne;have sk:jy k s k=s:=by unfold jy;rw[if_pos rfl]
   have et:gR n (n+1) (qT k d (G9 k s tb))=gR n (n+1) (nextT k s d tb):=zrd fun i j _ _=>by
    unfold qT G9 nextT;rw[sk]
   refine⟨G9 k s tb,n,n+1,k,d,?_,hk,by omega,bt.nz,zP bd (by decide),fun i j hi=>zP (be (jy k s i) j ?_) (by decide),?_⟩
   ·show [_,D.int (0+ (k:Int)),_]=_;rw[e0]
   ·unfold jy;split
    ·exact hsn
    ·split<;>omega
   ·rw[et];refine⟨bW (n+1) (nextT k s d tb k),?_,.int (nextT k s d tb k k),?_,tb s k,nextT k s d tb,rs',fs',zm,.pu (.int (0+ (k:Int))),?_,bt'⟩
    ·show jE ((List.range n).map fun i=>bW (n+1) (nextT k s d tb i)) (0+ (k:Int))=_;rw[e0];exact uK hk
    ·show jE ((List.range (n+1)).map fun j=>D.int (nextT k s d tb k j)) (0+ (k:Int))=_;rw[e0];exact uK (by omega)
    ·have:nextT k s d tb k k=tb s k:=by unfold nextT;rw[if_pos rfl]
     rw[this];rfl
  ·obtain⟨x,x1,hx⟩:=bt.stuck hk hall;refine hE x k hk x1 fun r hr=> ?_;have q:=hx r hr;rw[Ua (g:=fun j=>A r j*x j) (μ r) fun j hj=>by
    show(as r j:Rat)*x j=_;rw[(hμ r hr).2 j (by omega)];grind] at q
   rcases Rat.mul_eq_zero.mp q with q | q
   ·exact absurd q (hμ r hr).1
   ·exact q
 ·rintro _ ⟨d,tb,rs,fs,ix,y,rfl,bt⟩;have d0:(d:Rat)≠0:=fun z=>bt.nz (by exact_mod_cast z)
  have bd:aU d<=8500:=zP (KH (bt.lead (N:=16) ba (by omega))) (mx n (by omega))
  have be:∀i j,i<n ->aU (tb i j)<=8500:=fun i j hi=>zP (KH (bt.small (N:=16) ba (by omega) h1 hi j)) (mx (n+1) (by omega))
  have ex:∀i,i<n ->fs i n=(tb i n:Rat)/ (d:Rat):=fun i hi=>by
   rw[bt.t i hi n,Rat.div_def,Rat.mul_comm,<- Rat.mul_assoc,Rat.inv_mul_cancel _ d0,Rat.one_mul]
  have hs:Slv n A fun i=>fs i n:=fun r hr=>by
   have q:=bt.sol hr n;have q' :(as r n:Rat)=bC n fun c=>(as r c:Rat)*fs c n:=q;rw[Ua (g:=fun j=>A r j*fs j n) (μ r) fun j hj=>by rw[(hμ r hr).2 j (by omega)];grind,(hμ r hr).2 n (by omega)] at q'
   have m0:=(hμ r hr).1;have:=congrArg (fun z=>(μ r)⁻¹*z) q';simp only [<- Rat.mul_assoc,Rat.inv_mul_cancel _ m0,Rat.one_mul] at this;exact this
  show bJ _ (uD 0 ((List.range n).map fun i=>bW (n+1) (tb i))) _;rw[zzs];refine KD (g:=fun i=>qD (fs i n)) (fun i hi P hp=> ?_) (hP _ hs fun i hi=>by rw[ex i hi];exact z3o bt.nz (be i n hi) bd)
  refine⟨rfl,rfl,.int (tb i n),z42,.int (tb i i),uK (by omega),tb i n,tb i i,rfl,zP (be i n hi) (by decide),zP (be i i hi) (by decide),?_⟩
  rw[bt.diag hi hi,if_neg bt.nz,<- ex i hi];exact hp
abbrev tH(Q:T ->Prop):jm:={nx:=fun _=>False,rt:=fun _=>False,rT:=Q}
theorem z17(x y:Str):eF (.str x) (.str y)=decide (x=y):=by
 simp only [eF];by_cases h:x=y<;>simp [h]
theorem Ub{x:Str}:∀{g:List Str},inD (.str x) (g.map .str)=decide (x∈g)
 | []=>by simp [inD]
 | y::g=>by
  have ih:=Ub (x:=x) (g:=g);unfold inD at ih⊢;rw[List.map_cons,List.any_cons,ih];by_cases h:y=x
  ·subst h;simp [JN]
  ·have h' :¬x=y:=fun z=>h z.symm;simp [JN,h,h']
theorem zta(g:List Str):(g.map D.str).all sH=true:=by
 rw[List.all_map];exact List.all_eq_true.mpr fun _ _=>rfl
theorem zjt{α:Type}(f:α ->Bool):∀l:List α,nY (l.map fun x=> .bl (f x))=some (l.map f)
 | []=>rfl
 | a::l=>by simp [nY,zjt f l]
theorem uL{α:Type}{one:D ->(List D ->Prop) ->Prop}(f:α ->D)(g:α ->D):∀{l:List α} {P:List D ->Prop},(∀a∈l,∀P,P [g a] ->one (f a) P) ->P (l.map g) ->bJ one (l.map f) P
 | [],_,_,h=>h
 | a::l,P,k,h=>k a zY _ (uL f g (fun b hb=>k b (zX _ hb)) h)
theorem KJ{α:Type}{one:D ->(List D ->Prop) ->Prop}(f g:α ->D)(p:α ->Bool):∀{l:List α} {P:List D ->Prop},(∀a∈l,∀P,P (if p a=true then [g a] else []) ->one (f a) P) ->P ((l.filter p).map g) ->bJ one (l.map f) P
 | [],_,_,h=>h
 | a::l,P,k,h=>k a zY _ (KJ f g p (fun b hb=>k b (zX _ hb)) (by
   rw[List.filter_cons] at h;by_cases q:p a=true
   ·rw[if_pos q] at h⊢;exact h
   ·rw[if_neg q] at h⊢;exact h))
theorem z26{K:W.Frag}{c:Cls}{ds Q Ex}(h:Ce c ds Q Ex):zv2 K c (fin Q) (aH 2 ds) fun _=>Ex:=by
 obtain⟨g,hs,rfl,h⟩:=h;show bJ _ (hs.map D.str) _;refine uL D.str (fun x=> .bl (decide (x∈g))) (fun x hx P hp=> ?_) ?_
 ·refine⟨rfl,zta g,?_⟩;show P [.bl (if false then _ else inD (.str x) (g.map .str))];rw[Ub];exact hp
 ·refine⟨_,zjt _ hs,?_⟩;have e:(hs.map fun x=>decide (x∈g)).any id=bx g hs:=by rw[List.any_map];rfl
  rw[e];exact h
def addH(hs:List Str)(h:Str):List Str:=if h∈hs then hs else hs++ [h]
theorem zqp{hs:List Str}{h x:Str}:x∈addH hs h↔x∈hs\/x=h:=by
 unfold addH;split
 ·exact⟨.inl,fun q=>by rcases q with q | rfl;exact q;assumption⟩
 ·rw[List.mem_append,List.mem_singleton]
theorem zjl{hs:List Str}{h:Str}(nd:hs.Nodup):(addH hs h).Nodup:=by
 unfold addH;split
 ·exact nd
 ·rename_i q;rw[List.nodup_append];exact⟨nd,by simp,fun a ha b hb e=>q (by rw[List.mem_singleton.mp hb] at e;exact e ▸ ha)⟩
theorem zpi{hs:List Str}{h:Str}:(addH hs h).length<=hs.length+1:=by
 unfold addH;split
 ·omega
 ·simp
theorem qm{α β:Type}{x:β}{l:List β}:(Sum.inr x:Sum α β)∈l.map Sum.inr↔x∈l:=by
 rw[List.mem_map];exact⟨fun⟨y,h,e⟩=>by injection e with e;exact e ▸ h,fun h=>⟨x,h,rfl⟩⟩
theorem wQ{hs:List Str}{h:Str}:iV (hs.map .inr) (.inr h)=decide (h∈hs):=by
 by_cases q:h∈hs
 ·rw[decide_eq_true q];exact kE.mpr (qm.mpr q)
 ·rw[decide_eq_false q];cases z:iV (hs.map Sum.inr) (Sum.inr h:Key) with
  | false=>rfl
  | true=>exact absurd (qm.mp (kE.mp z)) q
theorem Uc{hs:List Str}{h:Str}:dH (hs.map .inr) (.inr h)=(addH hs h).map .inr:=by
 unfold dH addH;rw[wQ];by_cases q:h∈hs
 ·rw[decide_eq_true q,if_pos rfl,if_pos q]
 ·rw[decide_eq_false q,if_neg (by decide),if_neg q,List.map_append];rfl
theorem zs7{hs:List Str}{xs:List D}{h:Str}{d:D}(e:hs.length=xs.length):(addH hs h).length=(bQ (hs.map .inr) xs (.inr h) d).length:=by
 unfold bQ addH;rw[wQ];by_cases q:h∈hs
 ·rw[decide_eq_true q,if_pos rfl,if_pos q,List.length_zipWith,List.length_map,e,Nat.min_self]
 ·rw[decide_eq_false q,if_neg q,if_neg Bool.false_ne_true];simp [e]
structure Cj (rows:List Rw) (n:Nat) (ws:List Str) (ps:List (List Str×List D)):Prop where
 len:ws.length=ps.length
 nd:ws.Nodup
 lw:ws.length<=n
 pt:∀(q:Nat) w p,ws[q]?=some w ->ps[q]?=some p ->p.1.length=p.2.length/\p.1.Nodup/\p.1.length<=rows.length/\∀h,h∈p.1↔h∈lR rows w
 ex:Uq rows ->∀(q:Nat) w p,ws[q]?=some w ->ps[q]?=some p ->p=(kW rows w,(bh rows w).map fun r=> .int r.2.2)
theorem zx{rows:List Rw}{r:Rw}{w:Str}:bh (rows++ [r]) w=bh rows w++ (if r.1=w then [r] else []):=by
 unfold bh;rw[List.filter_append]
 congr 1
 by_cases q:r.1=w<;>simp [q]
theorem zsr{rows:List Rw}{r:Rw}{w:Str}:kW (rows++ [r]) w=kW rows w++ (if r.1=w then [r.2.1] else []):=by
 unfold kW;rw[zx,List.map_append]
 congr 1
 by_cases q:r.1=w<;>simp [q]
theorem Ud{rows:List Rw}{w:Str}(h:¬∃r∈rows,r.1=w):bh rows w= []:=by
 unfold bh;exact List.filter_eq_nil_iff.mpr fun r hr z=>h ⟨r,hr,of_decide_eq_true z⟩
theorem zmj{rows:List Rw}{r:Rw}{w:Str}:lR (rows++ [r]) w=lR rows w++ (if r.1=w then [r.2.1] else []):=by
 unfold lR;rw[List.filter_append,List.map_append]
 congr 1
 by_cases q:r.1=w<;>simp [q]
theorem cP{rows:List Rw}{w h:Str}:h∈lR rows w↔∃r∈rows,r.1=w/\r.2.1=h:=by
 unfold lR;rw[List.mem_map];constructor
 ·rintro⟨r,hr,e⟩;obtain⟨h1,h2⟩:=zE.mp hr;exact⟨r,h1,of_decide_eq_true h2,e⟩
 ·rintro⟨r,h1,h2,e⟩;exact⟨r,zE.mpr ⟨h1,decide_eq_true h2⟩,e⟩
theorem Cj.new{rows:List Rw}{ws:List Str}{ps:List (List Str×List D)}{w:Str}(B:zq rows ws ps)(hw:w∉ws):Cj rows (rows.length+1) (ws++ [w]) (ps++ [([],[])]):=by
 refine⟨by simp [B.len],?_,by simpa using B.lw,fun q v p h1 h2=> ?_,fun u q v p h1 h2=> ?_⟩
 ·rw[List.nodup_append];exact⟨B.nd,by simp,fun a ha b hb e=>hw (by rw[List.mem_singleton.mp hb] at e;exact e ▸ ha)⟩
 ·by_cases hq:q<ws.length
  ·rw[List.getElem?_append_left hq] at h1;rw[List.getElem?_append_left (by rw[<- B.len];exact hq)] at h2
   exact B.pt q v p h1 h2
  ·have hl:q< (ws++ [w]).length:=(zW.mp h1).1;rw[List.length_append,List.length_singleton] at hl;have hq' :q=ws.length:=by omega
   subst hq';rw[List.getElem?_append_right (Nat.le_refl _)] at h1;rw[List.getElem?_append_right (by rw[B.len];exact Nat.le_refl _)] at h2
   simp at h1;simp [B.len] at h2;subst h1 h2;refine⟨rfl,by simp,Nat.zero_le _,fun h=>⟨fun z=>by(cases z),fun z=> ?_⟩⟩
   obtain⟨r,hr,e,_⟩:=cP.mp z;exact absurd ((B.wm w).mpr ⟨r,hr,e⟩) hw
 ·by_cases hq:q<ws.length
  ·rw[List.getElem?_append_left hq] at h1;rw[List.getElem?_append_left (by rw[<- B.len];exact hq)] at h2
   exact B.ex u q v p h1 h2
  ·have hl:q< (ws++ [w]).length:=(zW.mp h1).1;rw[List.length_append,List.length_singleton] at hl;have hq' :q=ws.length:=by omega
   subst hq';rw[List.getElem?_append_right (Nat.le_refl _)] at h1;rw[List.getElem?_append_right (by rw[B.len];exact Nat.le_refl _)] at h2
   simp at h1;simp [B.len] at h2;subst h1 h2;have:=Ud (rows:=rows) (w:=w) fun⟨r,hr,e⟩=>hw ((B.wm w).mpr ⟨r,hr,e⟩);unfold kW;rw[this];rfl
theorem KN{ws:List Str}(nd:ws.Nodup){i j:Nat}(hi:i<ws.length)(hj:j<ws.length)(e:ws[i]=ws[j]):i=j:=by
 have key:=List.pairwise_iff_getElem.mp nd;rcases Nat.lt_trichotomy i j with q | q | q
 ·exact absurd e (key i j hi hj q)
 ·exact q
 ·exact absurd e.symm (key j i hj hi q)
theorem Cj.put{rows:List Rw}{ws:List Str}{ps:List (List Str×List D)}{r:Rw}{q:Nat}{p:List Str×List D}(B:Cj rows (rows.length+1) ws ps)(wm:∀v,v∈ws↔ (∃r∈rows,r.1=v)\/v=r.1)(h1:ws[q]?=some r.1)(h2:ps[q]?=some p)(d:D)(hd:d= .int r.2.2):
  zq (rows++ [r]) ws (ps.set q (addH p.1 r.2.1,bQ (p.1.map .inr) p.2 (.inr r.2.1) d)):=by
 obtain⟨b1,b2,b3,b4⟩:=B.pt q r.1 p h1 h2;have hq:q<ps.length:=(zW.mp h2).1;refine⟨by rw[List.length_set];exact B.len,B.nd,by simpa using B.lw,fun v=> ?_,fun q' v p' e1 e2=> ?_,fun u q' v p' e1 e2=> ?_⟩
 ·rw[wm v];constructor
  ·rintro(⟨r',h,e⟩ | e)
   ·exact⟨r',zQ _ h,e⟩
   ·exact⟨r,by simp,e.symm⟩
  ·rintro⟨r',h,e⟩;rcases zU.mp h with h | h
   ·exact .inl ⟨r',h,e⟩
   ·rw[List.mem_singleton.mp h] at e;exact .inr e.symm
 ·by_cases rR:q=q'
  ·subst rR;rw[h1] at e1;cases e1;rw[List.getElem?_set_self hq] at e2;cases e2;refine⟨zs7 b1,zjl b2,zP zpi (by simpa using b3),fun h=> ?_⟩
   show h∈addH p.1 r.2.1↔_;rw[zqp,zmj,if_pos rfl,List.mem_append,b4 h,List.mem_singleton]
  ·rw[List.getElem?_set_ne rR] at e2;obtain⟨c1,c2,c3,c4⟩:=B.pt q' v p' e1 e2;have hv:¬r.1=v:=fun z=>by
    have l1:=(zW.mp h1);have l2:=(zW.mp e1);obtain⟨l1,l1'⟩:=l1;obtain⟨l2,Ue⟩:=l2;exact rR (KN B.nd l1 l2 (by rw[l1',Ue,z]))
   refine⟨c1,c2,by simpa using Nat.le_succ_of_le c3,fun h=> ?_⟩
   rw[c4 h,zmj,if_neg hv,List.append_nil]
 ·have u0:Uq rows:=(List.pairwise_append.mp u).1;by_cases rR:q=q'
  ·subst rR;rw[h1] at e1;cases e1;rw[List.getElem?_set_self hq] at e2;cases e2;have ep:=B.ex u0 q r.1 p h1 h2;have hn:r.2.1∉p.1:=fun z=>by
    rw[ep] at z;obtain⟨r',hr',g1,g2⟩:=fD.mp z;exact(List.pairwise_append.mp u).2.2 r' hr' r (by simp) ⟨g1,g2⟩
   rw[zsr,zx,if_pos rfl,if_pos rfl];unfold addH bQ;rw[if_neg hn,wQ,decide_eq_false hn,if_neg Bool.false_ne_true,ep,hd,List.map_append]
   rfl
  ·rw[List.getElem?_set_ne rR] at e2;have hv:¬r.1=v:=fun z=>by
    have l1:=(zW.mp h1);have l2:=(zW.mp e1);obtain⟨l1,l1'⟩:=l1;obtain⟨l2,Ue⟩:=l2;exact rR (KN B.nd l1 l2 (by rw[l1',Ue,z]))
   rw[zsr,zx,if_neg hv,if_neg hv,List.append_nil,List.append_nil];exact B.ex u0 q' v p' e1 e2
theorem zka{ws:List Str}(nd:ws.Nodup):(ws.map (Sum.inr:Str ->Key)).Nodup:=by
 unfold List.Nodup;rw[List.pairwise_map];exact nd.imp fun h z=>h (by injection z)
theorem ztd{K:W.Frag}{c:Cls}{ds Q Ex}(h:Ca c ds Q Ex):zjy K c (tH Q) (aH 5 ds) fun _=>Ex:=by
 obtain⟨rows,rfl,hl,h⟩:=h;have s1:=tG;intro as;refine⟨fun i Γ=>∃as ws ps x y z,zq (rows.take i) ws ps/\Γ= [.pu (aK rows),.tr as (.dic (ws.map .inr) (ps.map ql)),x,y,z],?_,?_,?_⟩
 ·exact⟨as,[],[],_,_,_,⟨rfl,by simp,by simp,fun w=>⟨fun z=>by(cases z),fun⟨r,hr,_⟩=>by(simp at hr)⟩,fun q w p e=>(by simp at e),fun _ q w p e=>by simp at e⟩,rfl⟩
 ·rintro i d _ hi ⟨as,ws,ps,x,y,z,B,rfl⟩;have hi' :i<rows.length:=by
   have:=(zW.mp hi).1
   rwa [List.length_map] at this
  rw[List.getElem?_map,List.getElem?_eq_getElem hi'] at hi;cases hi;have tk:rows.take (i+1)=rows.take i++ [rows[i]]:=by rw[List.take_add_one,List.getElem?_eq_getElem hi'];rfl
  have hlt:(rows.take i).length=i:=by rw[List.length_take];omega
  have fin:∀as ws ps,Cj (rows.take i) ((rows.take i).length+1) ws ps ->(∀v,v∈ws↔ (∃r∈rows.take i,r.1=v)\/v=rows[i].1) ->
    zeu K c {nx:=fun Γ=>∃as ws ps x y z,zq (rows.take (i+1)) ws ps/\Γ= [.pu (aK rows),.tr as (.dic (ws.map .inr) (ps.map ql)),x,y,z],ct:=fun Γ=>∃as ws ps x y z,zq (rows.take (i+1)) ws ps/\Γ= [.pu (aK rows),.tr as (.dic (ws.map .inr) (ps.map ql)),x,y,z],bk:=fun Γ=>zhj K c (tH Q) Γ fun _=>Ex,rt:=fun _=>False,rT:=Q}
     [.pu (aK rows),.tr as (.dic (ws.map .inr) (ps.map ql)),.pu (.str rows[i].1),.pu (.str rows[i].2.1),.pu (.int rows[i].2.2)] fun _=>Ex:=by
   intro as ws ps B wm;have hm:rows[i].1∈ws:=(wm _).mpr (.inr rfl);obtain⟨q,hq,eq⟩:=List.mem_iff_getElem.mp hm;have hq2:q<ps.length:=by rw[<- B.len];exact hq
   have e1:ws[q]?=some rows[i].1:=by rw[List.getElem?_eq_getElem hq,eq]
   have e2:ps[q]?=some ps[q]:=zZ hq2;obtain⟨b1,b2,b3,b4⟩:=B.pt q _ _ e1 e2;have BW:=B.put wm e1 e2 (.int rows[i].2.2) rfl;rw[<- tk] at BW;refine⟨.inr rows[i].1,.inr rows[i].2.1,as,ws.map .inr,ps.map ql,q,ps[q].1.map .inr,ps[q].2,rfl,rfl,rfl,zka B.nd,by rw[List.getElem?_map,e1];rfl,by rw[List.getElem?_map,e2];rfl,by rw[List.length_map];omega,?_⟩
   refine⟨as,ws,_,.pu (.str rows[i].1),.pu (.str rows[i].2.1),.pu (.int rows[i].2.2),BW,?_⟩;rw[Uc,List.map_set]
   rfl
  refine⟨rfl,rfl,.inr rows[i].1,as,ws.map .inr,ps.map ql,rfl,rfl,?_⟩;rw[wQ];by_cases hw:rows[i].1∈ws
  ·rw[decide_eq_true hw];refine fin as ws ps ⟨B.len,B.nd,Nat.le_succ_of_le B.lw,B.pt,B.ex⟩ fun v=> ?_;rw[B.wm v];exact⟨.inl,fun z=>by rcases z with z | rfl;exact z;exact(B.wm _).mp hw⟩
  ·rw[decide_eq_false hw];refine⟨.inr rows[i].1,as,ws.map .inr,ps.map ql,rfl,rfl,by rw[wQ,decide_eq_false hw],by rw[List.length_map];have:=B.lw;omega,fun cs=> ?_⟩
   have:=fin (as++cs) (ws++ [rows[i].1]) (ps++ [([],[])]) (Cj.new B hw) fun v=>by
    rw[List.mem_append,B.wm v,List.mem_singleton]
   rw[List.map_append,List.map_append] at this;exact this
 ·rintro _ ⟨as,ws,ps,x,y,z,B,rfl⟩;have e:rows.take (rows.map qj).length=rows:=by rw[List.length_map,List.take_length]
  rw[e] at B;exact h ws ps B
theorem zm2:∀xs:List Str,kJ (xs.map .str)=some xs
 | []=>rfl
 | x::xs=>by rw[List.map_cons];unfold kJ;rw[zm2 xs];rfl
theorem z1x{xs U:List Str}(h:∀x∈xs,x∈U):(ju xs).length<=U.length:=wH (Zi xs) fun x hx=>h x (oh.mp hx)
theorem z2h{xs U:List Str}{P:List D ->Prop}(h1:xs.length<4095)(h2:U.length<60)(h3:∀x∈xs,x∈U)(h:∀ms:List Str,ms.Pairwise (fun a b=>iI a b=true) ->(∀i,i∈ms↔i∈xs) ->P (ms.map .str)):J7 [gl xs] P:=
 ⟨xs,zm2 xs,h1,zM (z1x h3) (by omega),h⟩
theorem Ug{p:List Str ->Bool}:∀fs:List (List Str),(fs.filter p).flatten.length<=fs.flatten.length
 | []=>by simp
 | f::fs=>by
  have:=Ug (p:=p) fs;rw[List.filter_cons];split<;>simp only [List.flatten_cons,List.length_append]<;>omega
theorem znl(fs:List (List Str))(i:Nat):(fs.take i).flatten.length<=fs.flatten.length:=by
 conv=>rhs;rw[<- List.take_append_drop i fs,List.flatten_append,List.length_append]
 omega
theorem zx2{K:W.Frag}{c:Cls}{ds Q Ex}(h:Ho c ds Q Ex):zmy K c (fin Q) (aH 5 ds) fun _=>Ex:=by
 obtain⟨fs,hs,U,rfl,hl,hfl,hU,u1,u2,h⟩:=h;have line:(8000:Nat)<=sizeLine:=by decide
 show bJ _ (fs.map gl) _;refine KJ gl gl (fun f=> !bx f hs) (fun f hf P hp=> ?_) ?_
 ·refine⟨f,hs,rfl,?_⟩;show if (!bx f hs)=true then P [gl f] else P [];by_cases q:(!bx f hs)=true
  ·rw[if_pos q] at hp⊢;exact hp
  ·rw[if_neg q] at hp⊢;exact hp
 ·refine⟨fun i Γ=>∃x,Γ= [.pu (.lst (fs.map gl)),.pu (gl hs),.pu (.lst ((fs.filter fun f=> !bx f hs).map gl)),.ow ((hs++ ((fs.take i).filter fun f=>bx f hs).flatten).map .str),x],⟨.no,by simp [gl];rfl⟩,?_,?_⟩
  ·rintro i d _ hi ⟨x,rfl⟩;have hi' :i<fs.length:=by
    have:=(zW.mp hi).1
    rwa [List.length_map] at this
   rw[List.getElem?_map,List.getElem?_eq_getElem hi'] at hi;cases hi;have tk:fs.take (i+1)=fs.take i++ [fs[i]]:=by rw[List.take_add_one,List.getElem?_eq_getElem hi'];rfl
   refine⟨fs[i],hs,rfl,?_⟩;show if bx fs[i] hs=true then _ else _;by_cases q:bx fs[i] hs=true
   ·rw[if_pos q];refine⟨⟨_,rfl⟩,?_,.pu (gl fs[i]),?_⟩
    ·have h1:=Ug (p:=fun f=>bx f hs) (fs.take (i+1));have h2:=znl fs (i+1);rw[tk,List.filter_append,List.flatten_append,List.length_append] at h1;simp only [List.filter_cons,q,if_true,List.filter_nil,List.flatten_cons,List.flatten_nil,List.append_nil] at h1;rw[tk] at h2;rw[List.length_map,List.length_append,List.length_map];omega
    ·rw[tk,List.filter_append,List.flatten_append];simp only [List.filter_cons,q,if_true,List.filter_nil,List.flatten_cons,List.flatten_nil,List.append_nil];rw[<- List.append_assoc,List.map_append (l₂:=fs[i])]
     rfl
   ·rw[if_neg q];refine⟨.pu (gl fs[i]),?_⟩;rw[tk,List.filter_append,List.flatten_append];simp only [List.filter_cons,q,Bool.false_eq_true,if_false,List.filter_nil,List.flatten_nil,List.append_nil]
    rfl
  ·rintro _ ⟨x,rfl⟩;have e:fs.take (fs.map gl).length=fs:=by rw[List.length_map,List.take_length]
   rw[e];have hx:∀x,x∈hs++ (fs.filter fun f=>bx f hs).flatten↔x∈hs\/∃f∈fs,bx f hs=true/\x∈f:=fun x=>by
    rw[List.mem_append,List.mem_flatten];constructor
    ·rintro(a | ⟨f,hf,a⟩)
     ·exact .inl a
     ·obtain⟨h1,h2⟩:=zE.mp hf;exact .inr ⟨f,h1,h2,a⟩
    ·rintro(a | ⟨f,h1,h2,a⟩)
     ·exact .inl a
     ·exact .inr ⟨f,zE.mpr ⟨h1,h2⟩,a⟩
   dsimp only;unfold zi8
   and_intros
   refine z2h (U:=U) ?_ hU (fun x q=> ?_) fun ms s1 s2=> ?_
   ·have:=Ug (p:=fun f=>bx f hs) fs;rw[List.length_append];omega
   ·rcases(hx x).mp q with a | ⟨f,h1,_,a⟩
    ·exact u1 x a
    ·exact u2 f h1 x a
   ·refine⟨by show(1:Nat)<=sizeLine;omega,?_,?_⟩
    ·have:=List.length_filter_le (fun f=> !bx f hs) fs;show((fs.filter fun f=> !bx f hs).map gl).length+1<=sizeLine;rw[List.length_map];omega
    ·have:=h ms s1 fun x=>(s2 x).trans (hx x);rw[List.map_append] at this;exact this
theorem Ck{g:List Str}(h:g.Pairwise fun a b=>iI a b=true):g.Nodup:=h.imp fun{a b} q z=>by rw[z,Zc] at q;cases q
theorem zy9{f:List Str}(h:f≠ []):hdS f∈f:=by
 cases f with
 | nil=>exact absurd rfl h
 | cons x f=>exact zY
theorem zq3:∀{fs:List (List Str)},(∀f∈fs,f≠ []) ->fs.Pairwise (fun a b=>∀x∈a,x∉b) ->(fs.map hdS).Nodup
 | [],_,_=>by simp
 | f::fs,ne,d=>by
  rw[List.pairwise_cons] at d;rw[List.map_cons,List.nodup_cons];refine⟨fun z=> ?_,zq3 (fun g hg=>ne g (zX _ hg)) d.2⟩;obtain⟨g,hg,e⟩:=zF.mp z;exact d.1 g hg (hdS f) (zy9 (ne f zY)) (e ▸ zy9 (ne g (zX _ hg)))
theorem Uh:∀{fs:List (List Str)},(∀f∈fs,f≠ []) ->fs.length<=fs.flatten.length
 | [],_=>by simp
 | f::fs,ne=>by
  have:=Uh (fs:=fs) fun g hg=>ne g (zX _ hg);have h1:0<f.length:=List.length_pos_iff.mpr (ne f zY);rw[List.length_cons,List.flatten_cons,List.length_append];omega
theorem zpk{Ss fs:List (List Str)}{U:List Str}(p:jx Ss fs)(h:∀S∈Ss,∀x∈S,x∈U):∀f∈fs,∀x∈f,x∈U:=fun f hf x hx=>by
 obtain⟨S,hS,q⟩:=(p.co x).mp ⟨f,hf,hx⟩;exact h S hS x q
theorem zqf{Ss fs:List (List Str)}{U:List Str}(p:jx Ss fs)(nd:∀f∈fs,f.Nodup)(h:∀S∈Ss,∀x∈S,x∈U):fs.flatten.length<=U.length:=
 wH (Kh p.dj nd) fun x hx=>by
  obtain⟨f,hf,q⟩:=List.mem_flatten.mp hx;exact zpk p h f hf x q
theorem Cm:∀l:List D,eO (l.map .leaf)=l
 | []=>rfl
 | d::l=>by rw[List.map_cons];unfold eO;rw[Cm l];rfl
theorem KQ{α:Type}(f:α ->T):∀l:List α,eO (l.map f)=l.map fun x=>toD (f x)
 | []=>rfl
 | d::l=>by rw[List.map_cons];unfold eO;rw[KQ f l];rfl
theorem zwm(hs:List Str):(hs.map (Sum.inr:Str ->Key)).map bO=hs.map .str:=by rw[List.map_map];rfl
theorem zv8{K:W.Frag}{c:Cls}{ds Q Ex}(h:Hq c ds Q Ex):zl0 K c (tH Q) (aH 3 ds) fun _=>Ex:=by
 obtain⟨rows,U,rfl,hl,hU,hu,h⟩:=h;refine⟨Nat.zero_le _,rows,rfl,hl,fun ws ps B=> ?_⟩;have Ui:∀p∈ps,(p.1.Nodup/\p.1≠ []/\∀x∈p.1,x∈U)/\∃r∈rows,∀x,x∈p.1↔x∈lR rows r.1:=fun p hp=>by
  obtain⟨q,hq,e⟩:=List.mem_iff_getElem.mp hp;have hq2:q<ws.length:=by rw[B.len];exact hq
  obtain⟨b1,b2,b3,b4⟩:=B.pt q _ p (zZ hq2) (by rw[List.getElem?_eq_getElem hq,e])
  obtain⟨r,hr,er⟩:=(B.wm ws[q]).mp (yZ hq2);refine⟨⟨b2,fun z=> ?_,fun x hx=> ?_⟩,r,hr,fun x=>by rw[er];exact b4 x⟩
  ·have:=(b4 r.2.1).mpr (cP.mpr ⟨r,hr,er,rfl⟩);rw[z] at this;cases this
  ·obtain⟨r',h1,_,h3⟩:=cP.mp ((b4 x).mp hx);exact h3 ▸ hu r' h1
 have few:∀i,∀S∈ (ps.take i).map (·.1),∀x∈S,x∈U:=fun i S hS x hx=>by
  obtain⟨p,hp,rfl⟩:=zF.mp hS;exact(Ui p (List.mem_of_mem_take hp)).1.2.2 x hx
 show lZ (eO (ps.map ql)) _ _ _ _ _;refine⟨fun i Γ=>∃fs x,jx ((ps.take i).map (·.1)) fs/\ (∀f∈fs,f.Pairwise fun a b=>iI a b=true)/\Γ= [.pu (aK rows),.pu (.lst (fs.map gl)),x],⟨[],_,by simpa using jx.nil,fun f hf=>by(cases hf),rfl⟩,?_,?_⟩
 ·rintro i d _ hi ⟨fs,x,p,sr,rfl⟩;rw[KQ] at hi;have hi' :i<ps.length:=by
   have:=(zW.mp hi).1
   rwa [List.length_map] at this
  rw[List.getElem?_map,List.getElem?_eq_getElem hi'] at hi;cases hi;have tk:ps.take (i+1)=ps.take i++ [ps[i]]:=by rw[List.take_add_one,List.getElem?_eq_getElem hi'];rfl
  obtain⟨⟨q1,q2,q3⟩,_⟩:=Ui ps[i] (yZ hi');have l1:=wH q1 q3;have l2:=zqf p (fun f hf=>Ck (sr f hf)) (few i);have l3:=Uh p.ne;refine⟨fs,ps[i].1,U,?_,by omega,by omega,hU,q3,zpk p (few i),fun g g1 g2=> ?_⟩
  ·show [D.lst (fs.map gl),D.lst ((ps[i].1.map Sum.inr).map bO)]=_;rw[zwm];rfl
  ·refine⟨fs.filter (fun f=> !bx f ps[i].1)++ [g],_,?_,fun f hf=> ?_,rfl⟩
   ·rw[tk,List.map_append];exact p.step q2 g2
   ·rcases zU.mp hf with hf | hf
    ·exact sr f (zE.mp hf).1
    ·rw[List.mem_singleton.mp hf];exact g1
 ·rintro _ ⟨fs,x,p,sr,rfl⟩;have e:ps.take (eO (ps.map ql)).length=ps:=by rw[KQ,List.length_map,List.take_length]
  rw[e] at p;have Uj :∀S∈ps.map (·.1),∀x∈S,x∈U:=by have:=few ps.length;rwa [List.take_length] at this
  have l2:=zqf p (fun f hf=>Ck (sr f hf)) Uj;have l3:=Uh p.ne;refine⟨fs,rfl,p.ne,zq3 p.ne p.dj,by omega,fun ms pm up=>h ms ⟨fun m hm=>sr m (pm.mem_iff.mp hm),up,_,⟨fun S hS=> ?_,fun r hr=> ?_⟩,p.perm pm⟩⟩
  ·obtain⟨p,hp,rfl⟩:=zF.mp hS;exact(Ui p hp).2
  ·have hw:=(B.wm r.1).mpr ⟨r,hr,rfl⟩;obtain⟨q,hq,e⟩:=List.mem_iff_getElem.mp hw;have hq2:q<ps.length:=by rw[<- B.len];exact hq
   obtain⟨b1,b2,b3,b4⟩:=B.pt q r.1 ps[q] (by rw[List.getElem?_eq_getElem hq,e]) (zZ hq2)
   exact⟨ps[q].1,zF.mpr ⟨_,yZ hq2,rfl⟩,b4⟩
def GZ(B:Nat)(q:Rat):Prop:=∃z:Int,q*27720=(z:Rat)/\z.natAbs<=B
theorem GZ.add{A B:Nat}{p q:Rat}(h1:GZ A p)(h2:GZ B q):GZ (A+B) (p+q):=by
 obtain⟨a,ea,ha⟩:=h1;obtain⟨b,eb,hb⟩:=h2;refine⟨a+b,?_,by omega⟩
 rw[Rat.intCast_add,<- ea,<- eb];grind
theorem GZ.sub{A B:Nat}{p q:Rat}(h1:GZ A p)(h2:GZ B q):GZ (A+B) (p - q):=by
 obtain⟨a,ea,ha⟩:=h1;obtain⟨b,eb,hb⟩:=h2;refine⟨a - b,?_,by omega⟩
 rw[Rat.intCast_sub,<- ea,<- eb];grind
theorem GZ.mono{A B:Nat}{q:Rat}(h:GZ A q)(l:A<=B):GZ B q:=by
 obtain⟨a,ea,ha⟩:=h;exact⟨a,ea,zP ha l⟩
theorem Uk{B:Nat}:∀{qs:List Rat},(∀q∈qs,GZ B q) ->GZ (qs.length*B) (dD qs)
 | [],_=>⟨0,by unfold dD;grind,by simp⟩
 | q::qs,h=>by
  refine((h q zY).add (Uk fun p hp=>h p (zX _ hp))).mono ?_;rw[List.length_cons,Nat.add_mul];omega
theorem zy{n:Nat}(h1:1<=n)(h2:n<=12):n* (27720/n)=27720:=by
 match n,h1,h2 with
 | 1,_,_=>rfl
 | 2,_,_=>rfl
 | 3,_,_=>rfl
 | 4,_,_=>rfl
 | 5,_,_=>rfl
 | 6,_,_=>rfl
 | 7,_,_=>rfl
 | 8,_,_=>rfl
 | 9,_,_=>rfl
 | 10,_,_=>rfl
 | 11,_,_=>rfl
 | 12,_,_=>rfl
theorem Ul{t:Int}{n B:Nat}(h1:1<=n)(h2:n<=12)(ht:t.natAbs<=B):GZ (B*27720) ((t:Rat)/ ((n:Nat):Rat)):=by
 have e:=zy h1 h2;have n0:((n:Nat):Rat)≠0:=fun z=>by
  have:n=0:=by exact_mod_cast z
  omega
 refine⟨t* ((27720/n:Nat):Int),?_,?_⟩
 ·have e' :(27720:Rat)=((n:Nat):Rat)* ((27720/n:Nat):Rat):=by exact_mod_cast e.symm
  rw[e',Rat.intCast_mul,Rat.div_def,Rat.mul_assoc,<- Rat.mul_assoc (((n:Nat):Rat)⁻¹),Rat.inv_mul_cancel _ n0,Rat.one_mul]
  rfl
 ·rw[Int.natAbs_mul];refine Nat.mul_le_mul ht ?_;rw[Int.natAbs_natCast];exact Nat.div_le_self _ _
theorem zzg{t:Int}{B:Nat}(ht:t.natAbs<=B):GZ (B*27720) (t:Rat):=by
 refine⟨t*27720,by rw[Rat.intCast_mul];rfl,?_⟩
 rw[Int.natAbs_mul];exact Nat.mul_le_mul ht (zO _)
theorem KR{B n:Nat}{q:Rat}(h:GZ B q)(hB:B<2^n):aU q.num<=n/\aU (q.den:Int)<=15:=by
 obtain⟨z,e,hz⟩:=h;have c0:((27720:Int):Rat)≠0:=by decide
 have eq:q=(z:Rat)/ ((27720:Int):Rat):=by
  rw[<- e,Rat.div_def,Rat.mul_assoc];have:(27720:Rat)* ((27720:Int):Rat)⁻¹=1:=by
   have:=Rat.mul_inv_cancel _ c0;exact this
  rw[this];grind
 have b1:aU z<=n:=eU (by omega)
 have f:=Kc (t:=z) (b:=27720) (by decide)
 have e1:(fr z 27720).1=_:=congrArg Prod.fst f;have e2:(fr z 27720).2=_:=congrArg Prod.snd f;dsimp only at e1 e2;rw[eq];refine⟨zP (rC ?_) b1,zP (rC (j:=27720) ?_) (eU (by decide))⟩
 ·rw[<- e1];exact zy6 (by decide)
 ·rw[<- e2];exact zzw (by decide)
theorem Cp{B n:Nat}{q:Rat}(h:GZ B q)(hB:B<2^n)(hn:15<=n):Sz n q:=⟨(KR h hB).1,zP (KR h hB).2 hn⟩
theorem vI{B n:Nat}{q:Rat}(h:GZ B q)(hB:B<2^n)(hn:n<=400):Kv q:=⟨zP (KR h hB).1 hn,zP (KR h hB).2 (by decide)⟩
theorem z1r{n:Nat}(h:1<=n):qD (((-1:Int):Rat)/ ((n:Nat):Rat))= .tup [.int (-1),.int n]:=by
 have f:=Kc (t:= -1) (b:=(n:Int)) (by omega)
 have e1:(fr (-1) (n:Int)).1=_:=congrArg Prod.fst f;have e2:(fr (-1) (n:Int)).2=_:=congrArg Prod.snd f;dsimp only at e1 e2;have g:dv (-1) (n:Int)=1:=by unfold dv;rw[if_neg (by omega)];simp
 have t1:=Ka (-1) (n:Int);have t2:=GK (-1) (n:Int);rw[g,Int.one_mul] at t1 t2;unfold qD;have c:(((-1:Int):Rat)/ ((n:Nat):Rat))=((-1:Int):Rat)/ (((n:Nat):Int):Rat):=rfl;rw[c,<- e1,<- e2,t1,t2]
theorem Um{α:Type}(f:α ->Rat):∀l:List α,dD (l.map f)=ao l f
 | []=>rfl
 | a::l=>by show f a+dD (l.map f)=f a+ao l f;rw[Um f l]
theorem HX(rows:List Rw)(w:Str):vC (uJ rows w)=some ((kW rows w).map .inr,(bh rows w).map fun r=> .int r.2.2):=rfl
theorem zk8{K:W.Frag}{c:Cls}{ds Q Ex}(h:wN c ds Q Ex):zfa K c (fin Q) (aH 2 ds) fun _=>Ex:=by
 obtain⟨rows,ws,h0,rfl,h⟩:=h;show bJ _ (ws.map (uJ rows)) _;refine KJ (uJ rows) (uJ rows) (fun w=>decide (h0∈kW rows w)) (fun w hw P hp=> ?_) h;refine⟨_,_,.inr h0,HX rows w,rfl,?_⟩;rw[wQ];simp only [Bool.false_eq_true,if_false];by_cases q:h0∈kW rows w
 ·rw[decide_eq_true q] at hp⊢;exact hp
 ·rw[decide_eq_false q] at hp⊢;exact hp
theorem tK{rows:List Rw}(L:LB rows){w:Str}(h:bh rows w≠ []):1<=(kW rows w).length/\ (kW rows w).length<=12:=by
 rw[BL];exact⟨List.length_pos_iff.mpr h,L.wk w⟩
theorem z1c{K:W.Frag}{c:Cls}{ds Q Ex}(h:Hr c ds Q Ex):zqd K c (fin Q) (aH 5 ds) fun _=>Ex:=by
 obtain⟨rows,ws,h0,o0,rfl,L,⟨W1,W2⟩,h⟩:=h;have s1:=tG;refine⟨rows,ws,h0,rfl,rows,ws.filter (fun w=>decide (h0∈kW rows w)),o0,rfl,?_⟩
 let both:=(ws.filter fun w=>decide (h0∈kW rows w)).filter fun w=>decide (o0∈kW rows w)
 show TY K c (fin Q) [.pu (.str h0),.pu (.str o0),.pu (jU rows ws),.pu (jU rows both),.no] fun _=>Ex;have hb:∀w∈both,bh rows w≠ []:=fun w hw=>W2 w (zE.mp (zE.mp hw).1).1;have hbl:both.length<=200:=zP (zP (List.length_filter_le _ _) (List.length_filter_le _ _)) W1
 let f:Str ->Rat:=fun w=>((-1:Int):Rat)/ (((kW rows w).length:Nat):Rat)
 have gz:∀w∈both,GZ 27720 (f w):=fun w hw=>by
  have:=Ul (t:= -1) (B:=1) (tK L (hb w hw)).1 (tK L (hb w hw)).2 (by decide)
  rw[Nat.one_mul] at this;exact this
 have gs:∀k,GZ (200*27720) (dD ((both.map f).take k)):=fun k=>by
  refine(Uk fun q hq=> ?_).mono (Nat.mul_le_mul_right _ (zP (by rw[List.length_take];omega) (show(both.map f).length<=200 by rw[List.length_map];exact hbl)))
  obtain⟨w,hw,rfl⟩:=zF.mp (List.mem_of_mem_take hq);exact gz w hw
 have e2:dD (both.map f)=ao ws fun w=>if h0∈kW rows w/\o0∈kW rows w then f w else 0:=by
  rw[Um];show ao ((ws.filter fun w=>decide (h0∈kW rows w)).filter fun w=>decide (o0∈kW rows w)) f=_;rw[uH,uH];refine eY fun w _=> ?_;by_cases q1:h0∈kW rows w
  ·by_cases q2:o0∈kW rows w<;>simp [q1,q2]
  ·simp [q1]
 have e3:(ao (ws.map (kW rows)) fun s=>if h0∈s/\o0∈s then 1/ (s.length:Rat) else 0)= - dD (both.map f):=by
  rw[e2,uI];have: - (ao ws fun w=>if h0∈kW rows w/\o0∈kW rows w then f w else 0)=ao ws fun w=>(-1)* (if h0∈kW rows w/\o0∈kW rows w then f w else 0):=by rw[qQ];grind
  rw[this];refine eY fun w _=> ?_;split
  ·show 1/ (((kW rows w).length:Nat):Rat)=(-1)* (((-1:Int):Rat)/ (((kW rows w).length:Nat):Rat));rw[Rat.div_def,Rat.div_def];have:((-1:Int):Rat)= -1:=rfl;rw[this];grind
  ·grind
 have pw:∀n,23<=n ->200*27720<2^n:=fun n hn=>zN (show 200*27720<2^23 by decide) (Nat.pow_le_pow_right (by decide) hn)
 unfold TY
 and_intros
 refine uL (uJ rows) (fun w=> .tup [.int (-1),.int (((kW rows w).length:Nat):Int)]) (fun w hw P hp=> ?_) ?_
 ·refine⟨_,_,HX rows w,by show(2:Nat)<=sizeLine;omega,?_⟩
  rw[List.length_map];exact hp
 refine⟨both.map f,?_,fun q hq=> ?_,fun k=>Cp (gs k) (pw 4000 (by decide)) (by decide),?_⟩
 ·rw[List.map_map];refine congrArg (fun z=> [D.lst z]) (List.map_congr_left fun w hw=> ?_);exact(z1r (tK L (hb w hw)).1).symm
 ·obtain⟨w,hw,rfl⟩:=zF.mp hq;exact Cp (gz w hw) (zM (by decide) (pw 4000 (by decide))) (by decide)
 have gt:=gs (both.map f).length;rw[List.take_length] at gt;unfold zjq
 and_intros
 refine⟨by simp [mz],?_⟩
 rw[z17];by_cases q:h0=o0
 ·subst q;rw[decide_eq_true rfl];have eb:both.length=(ws.filter fun w=>decide (h0∈kW rows w)).length:=by
   show((ws.filter fun w=>decide (h0∈kW rows w)).filter fun w=>decide (h0∈kW rows w)).length=_;rw[List.filter_filter];simp
  have ec:dw (ws.map (kW rows)) h0=((both.length:Nat):Rat):=by
   unfold dw;rw[uI,eb];have:=zp (α:=Str) 1 (l:=ws.filter fun w=>decide (h0∈kW rows w));rw[uH] at this;rw[Rat.mul_one] at this;rw[<- this];exact eY fun w _=>by by_cases q:h0∈kW rows w<;>simp [q]
  refine⟨by show(2:Nat)<=sizeLine;omega,((both.length:Int):Rat),dD (both.map f),?_,?_,Cp gt (pw 4000 (by decide)) (by decide),?_⟩
  ·rw[Kf,List.length_map]
  ·exact zzh (eU (k:=4000) (zM (show((both.length:Nat):Int).natAbs<=200*27720 by omega) (pw 4000 (by decide)))) (by decide)
  ·have:((both.length:Int):Rat)+dD (both.map f)=bL (ws.map (kW rows)) h0 h0:=by
    unfold bL;rw[if_pos rfl,e3,ec];show((both.length:Nat):Rat)+_=_
    grind
   rw[this];exact h
 ·rw[decide_eq_false q];have:dD (both.map f)=bL (ws.map (kW rows)) h0 o0:=by
   unfold bL;rw[if_neg q,e3];grind
  show Q (qD (dD (both.map f)));rw[this];exact h
theorem zxa{K:W.Frag}{c:Cls}{ds Q Ex}(h:Hs c ds Q Ex):zmh K c (fin Q) (aH 3 ds) fun _=>Ex:=by
 obtain⟨rows,ws,m,h0,rfl,L,W,h⟩:=h;show bJ _ (m.map D.str) _;refine uL D.str (fun o=>qD (bL (ws.map (kW rows)) h0 o)) (fun o ho P hp=> ?_) h;exact⟨rows,ws,h0,o,rfl,L,W,hp⟩
theorem KY{α:Type}(f:α ->Int):∀l:List α,fV (l.map fun a=> .int (f a))=some (l.map f)
 | []=>rfl
 | a::l=>by unfold List.map fV;rw[KY f l];rfl
theorem KZ{α:Type}(f:α ->Int):∀l:List α,(((l.map f).sum:Int):Rat)=ao l fun a=>(f a:Rat)
 | []=>rfl
 | a::l=>by
  rw[List.map_cons,List.sum_cons,Rat.intCast_add,KZ f l];rfl
theorem Uo{α:Type}(f:α ->Int){B:Nat}:∀{l:List α},(∀a∈l,(f a).natAbs<=B) ->((l.map f).sum).natAbs<=l.length*B
 | [],_=>by simp
 | a::l,h=>by
  have h1:=h a zY;have h2:=Uo f (l:=l) fun b hb=>h b (zX _ hb);rw[List.map_cons,List.sum_cons,List.length_cons,Nat.add_mul];omega
theorem zop{K:W.Frag}{c:Cls}{ds Q Ex}(h:Ht c ds Q Ex):zhi K c (fin Q) (aH 1 ds) fun _=>Ex:=by
 obtain⟨rows,w,rfl,L,ne,h⟩:=h;have hp:=List.length_pos_iff.mpr ne;have h12:=L.wk w;refine⟨_,_,(bh rows w).map (fun r=>r.2.2),HX rows w,KY _ _,_,_,HX rows w,_,_,rfl,?_,?_,?_⟩
 ·have:=Uo (fun r:Rw=>r.2.2) (B:=2^100) (l:=bh rows w) fun r hr=>Nat.le_of_lt (L.mm r (aJ.mp hr).1);refine zP (eU (k:=104) (zM this ?_)) (by decide)
  exact zM (Nat.mul_le_mul_right _ h12) (by decide)
 ·rw[List.length_map,BL];exact zP (eU (k:=4) (by omega)) (by decide)
 ·rw[List.length_map,BL,if_neg (by omega),KZ]
  exact h
theorem zx1{L:List Rw}{h:Str}:dI (L.map fun r=> .inr r.2.1) (L.map fun r=> .int r.2.2) (.inr h)=(L.find? fun r=>decide (r.2.1=h)).map fun r=> .int r.2.2:=by
 induction L with
 | nil=>rfl
 | cons r L ih=>
  rw[List.map_cons,List.map_cons,List.find?_cons];unfold dI;by_cases q:r.2.1=h
  ·rw[if_pos (by rw[q]),decide_eq_true q];rfl
  ·rw[if_neg (fun z=>q (by injection z)),decide_eq_false q];exact ih
theorem zt8{rows:List Rw}(u:Uq rows){w h:Str}(hh:h∈kW rows w):∃r∈rows,r.1=w/\r.2.1=h/\dI ((kW rows w).map .inr) ((bh rows w).map fun r=> .int r.2.2) (.inr h)=some (.int r.2.2)/\yW rows w h=(r.2.2:Rat):=by
 obtain⟨r,hr,e1,e2⟩:=fD.mp hh;refine⟨r,hr,e1,e2,?_,?_⟩
 ·unfold kW;rw[List.map_map];have:=zx1 (L:=bh rows w) (h:=h);show dI ((bh rows w).map fun r=> .inr r.2.1) _ _=_;rw[this];cases q:(bh rows w).find? fun r=>decide (r.2.1=h) with
  | none=>
   have:=List.find?_eq_none.mp q r (aJ.mpr ⟨hr,e1⟩);simp [e2] at this
  | some s=>
   have s1:=aJ.mp (List.mem_of_find?_eq_some q);have s2:s.2.1=h:=by simpa using List.find?_some q
   rw[Tt u s1.1 hr (s1.2.trans e1.symm) (s2.trans e2.symm)];rfl
 ·have:=Ks u hr;rw[e1,e2] at this;exact this
theorem wR{rows:List Rw}(u:Uq rows)(w:Str):aW (kW rows w) (yW rows w)=ao (bh rows w) (fun r=>(r.2.2:Rat))/ ((bh rows w).length:Rat):=by
 unfold aW;rw[BL,zzc]
 congr 1
 refine eY fun r hr=> ?_;have:=Ks u (aJ.mp hr).1;rw[(aJ.mp hr).2] at this;rw[this]
theorem zt5{rows:List Rw}(L:LB rows){w:Str}(ne:bh rows w≠ []):GZ (2^104*27720) (ao (bh rows w) (fun r=>(r.2.2:Rat))/ ((bh rows w).length:Rat)):=by
 have hp:=List.length_pos_iff.mpr ne;have h12:=L.wk w;have:=Uo (fun r:Rw=>r.2.2) (B:=2^100) (l:=bh rows w) fun r hr=>Nat.le_of_lt (L.mm r (aJ.mp hr).1);rw[<- KZ];refine Ul hp h12 (zP this (zP (Nat.mul_le_mul_right _ h12) (by decide)))
theorem Ur{rows:List Rw}(u:Uq rows)(L:LB rows){w h:Str}(hh:h∈kW rows w):GZ (2^105*27720) (yW rows w h - aW (kW rows w) (yW rows w)):=by
 obtain⟨r,hr,e1,e2,_,ey⟩:=zt8 u hh;rw[ey,wR u];have ne:bh rows w≠ []:=fun z=>by
  have:=aJ.mpr ⟨hr,e1⟩;rw[z] at this;cases this
 exact((zzg (B:=2^104) (zP (Nat.le_of_lt (L.mm r hr)) (by decide))).sub (zt5 L ne)).mono (by decide)
theorem zxl{K:W.Frag}{c:Cls}{ds Q Ex}(h:Hu c ds Q Ex):T3 K c (fin Q) (aH 2 ds) fun _=>Ex:=by
 obtain⟨rows,ws,h0,rfl,u,L,⟨W1,W2⟩,h⟩:=h;have s1:=tG;have pw:∀n,128<=n ->200* (2^105*27720)<2^n:=fun n hn=>zN (show 200* (2^105*27720)<2^128 by decide) (Nat.pow_le_pow_right (by decide) hn)
 let wh:=ws.filter fun w=>decide (h0∈kW rows w)
 have wU:∀w∈wh,w∈ws/\h0∈kW rows w:=fun w hw=>⟨(zE.mp hw).1,of_decide_eq_true (zE.mp hw).2⟩
 let f:Str ->Rat:=fun w=>yW rows w h0 - aW (kW rows w) (yW rows w)
 unfold T3
 and_intros
 refine⟨rows,ws,h0,rfl,?_⟩;show bJ _ (wh.map (uJ rows)) _;refine uL (uJ rows) (fun w=>qD (f w)) (fun w hw P hp=> ?_) ?_
 ·obtain⟨r,hr,e1,e2,lk,ey⟩:=zt8 u (wU w hw).2;refine⟨_,_,.inr h0,.int r.2.2,HX rows w,rfl,lk,by show(2:Nat)<=sizeLine;omega,rows,w,rfl,L,W2 w (wU w hw).1,?_⟩
  refine⟨((r.2.2:Int):Rat),_,by rw[Kf],?_,Cp (zt5 L (W2 w (wU w hw).1)) (zM (by decide) (pw 4000 (by decide))) (by decide),?_⟩
  ·exact zzh (zP (eU (L.mm r hr)) (by decide)) (by decide)
  ·rw[<- wR u,<- ey];exact hp
 ·have gs:∀k,GZ (200* (2^105*27720)) (dD ((wh.map f).take k)):=fun k=>by
   refine(Uk fun q hq=> ?_).mono (Nat.mul_le_mul_right _ (zP (by rw[List.length_take];omega) (show(wh.map f).length<=200 by rw[List.length_map];exact zP (List.length_filter_le _ _) W1)))
   obtain⟨w,hw,rfl⟩:=zF.mp (List.mem_of_mem_take hq);exact Ur u L (wU w hw).2
  refine⟨wh.map f,by rw[List.map_map];rfl,fun q hq=> ?_,fun k=>Cp (gs k) (pw 4000 (by decide)) (by decide),?_⟩
  ·obtain⟨w,hw,rfl⟩:=zF.mp hq;exact Cp (Ur u L (wU w hw).2) (zM (by decide) (pw 4000 (by decide))) (by decide)
  ·have:dD (wh.map f)=fC (kW rows) (yW rows) ws h0:=by
    rw[Um];show ao (ws.filter fun w=>decide (h0∈kW rows w)) f=_;rw[uH];unfold fC;exact eY fun w _=>by by_cases q:h0∈kW rows w<;>simp [q,f]
   rw[this];exact h
theorem K1{α:Type}{B:Nat}{f:α ->Rat}:∀{l:List α},(∀a∈l,GZ B (f a)) ->GZ (l.length*B) (ao l f)
 | [],_=>⟨0,by unfold ao;grind,by simp⟩
 | a::l,h=>by
  refine((h a zY).add (K1 fun b hb=>h b (zX _ hb))).mono ?_;rw[List.length_cons,Nat.add_mul];omega
theorem HY(B:Nat):GZ B 0:=⟨0,by grind,by simp⟩
theorem zz0{rows:List Rw}{ws:List Str}(W:oF rows ws)(h:Str):GZ (200*27720) (dw (ws.map (kW rows)) h):=by
 unfold dw;rw[uI];refine(K1 (B:=27720) fun w _=> ?_).mono (Nat.mul_le_mul_right _ W.1);split
 ·have:=zzg (t:=1) (B:=1) (by decide)
  rw[Nat.one_mul] at this;exact this
 ·exact HY _
theorem zym{rows:List Rw}{ws:List Str}(L:LB rows)(W:oF rows ws)(h o:Str):GZ (400*27720) (bL (ws.map (kW rows)) h o):=by
 unfold bL;have g1:GZ (200*27720) (if h=o then dw (ws.map (kW rows)) h else 0):=by
  split
  ·exact zz0 W h
  ·exact HY _
 have g2:GZ (200*27720) (ao (ws.map (kW rows)) fun s=>if h∈s/\o∈s then 1/ (s.length:Rat) else 0):=by
  rw[uI];refine(K1 (B:=27720) fun w hw=> ?_).mono (Nat.mul_le_mul_right _ W.1);split
  ·have:=Ul (t:=1) (B:=1) (tK L (W.2 w hw)).1 (tK L (W.2 w hw)).2 (by decide)
   rw[Nat.one_mul] at this;exact this
  ·exact HY _
 exact(g1.sub g2).mono (by decide)
theorem z0g{rows:List Rw}{ws:List Str}(u:Uq rows)(L:LB rows)(W:oF rows ws)(h:Str):GZ (200* (2^105*27720)) (fC (kW rows) (yW rows) ws h):=by
 unfold fC;refine(K1 (B:=2^105*27720) fun w _=> ?_).mono (Nat.mul_le_mul_right _ W.1);split
 ·rename_i q;exact Ur u L q
 ·exact HY _
theorem K3{α β:Type}[Inhabited α](g:α ->β)(l:List α):l.map g=(List.range l.length).map fun j=>g (l.getD j default):=by
 apply List.ext_getElem
 ·simp
 ·intro i h1 h2;simp only [List.getElem_map,List.getElem_range];have hi:i<l.length:=by simpa using h1
  rw[List.getD_eq_getElem?_getD,List.getElem?_eq_getElem hi];rfl
theorem zwq(x:D)(xs:List D):cutD (x::xs) (some 1) none=xs:=by
 unfold cutD HT.sIx;simp
theorem zho{K:W.Frag}{c:Cls}{ds Q Ex}(h:Hv c ds Q Ex):zdn K c (fin Q) (aH 5 ds) fun _=>Ex:=by
 obtain⟨rows,ws,m,rfl,S,L,W,ne,Us,h⟩:=h;have s1:=tG;obtain⟨h0,hs,em⟩:∃h0 hs,m=h0::hs:=by
  cases m with
  | nil=>exact absurd rfl ne
  | cons a b=>exact⟨a,b,rfl⟩
 have hn:m.length=hs.length+1:=by rw[em];rfl
 have gs:∀i,m.getD (i+1) default=hs.getD i default:=fun i=>by rw[em];rfl
 have ct:cutD (m.map D.str) (some 1) none=hs.map D.str:=by rw[em];exact zwq _ _
 let A:=fX rows ws m
 show bJ _ (cutD (m.map D.str) (some 1) none) _;rw[ct];refine uL D.str (fun h=> .lst (m.map fun o=>qD (bL (ws.map (kW rows)) h o))) (fun h hh P hp=>⟨rows,ws,m,h,rfl,L,W,hp⟩) ?_;show bJ _ (cutD (m.map D.str) (some 1) none) _;rw[ct];refine uL D.str (fun h=>qD (fC (kW rows) (yW rows) ws h)) (fun h hh P hp=>⟨rows,ws,h,rfl,S.u,L,W,hp⟩) ?_;have ec:∀h,dw (ws.map (kW rows)) h=(((ws.filter fun w=>decide (h∈kW rows w)).length:Int):Rat):=fun h=>by
  unfold dw;rw[uI];have:=zp (α:=Str) 1 (l:=ws.filter fun w=>decide (h∈kW rows w));rw[uH,Rat.mul_one] at this;refine Eq.trans ?_ this;exact eY fun w _=>by by_cases q:h∈kW rows w<;>simp [q]
 show zcy K c (fin Q) [.pu (gl m),.pu (jU rows ws),.pu (.lst (hs.map fun h=> .lst (m.map fun o=>qD (bL (ws.map (kW rows)) h o)))),.pu (.lst (hs.map fun h=>qD (fC (kW rows) (yW rows) ws h))),.no] fun _=>Ex;show bJ _ (m.map D.str) _;refine uL D.str (fun h=>qD (dw (ws.map (kW rows)) h)) (fun h hh P hp=> ?_) ?_
 ·refine⟨rows,ws,h,rfl,by show(2:Nat)<=sizeLine;omega,?_⟩
  rw[ec,Kf] at hp;rw[List.length_map];exact hp
 unfold zco
 and_intros
 have l1:hs.length<=1000:=by omega
 refine⟨by show(1:Nat)<=sizeLine;omega,by rw[List.length_map];simp;omega,by show(2:Nat)<=sizeLine;omega,by show(1:Nat)<=sizeLine;omega,by rw[List.length_map];simp;omega,?_⟩
 have Ia:∀i,i<m.length ->gA m.length (A i)= .lst (m.map fun o=>qD (if i=0 then dw (ws.map (kW rows)) o else bL (ws.map (kW rows)) (m.getD i default) o)):=fun i hi=>by
  unfold gA;rw[K3 (fun o=>qD (if i=0 then dw (ws.map (kW rows)) o else bL (ws.map (kW rows)) (m.getD i default) o)) m];refine congrArg D.lst (List.map_congr_left fun j hj=> ?_);show qD (fX rows ws m i j)=_;unfold fX;rw[if_pos (List.mem_range.mp hj)]
 have idx:∀j,j<m.length ->m.idxOf (m.getD j default)=j:=fun j hj=>by
  rw[List.getD_eq_getElem?_getD,List.getElem?_eq_getElem hj];exact S.nm.idxOf_getElem j hj
 have conv:∀(X:Nat ->Rat) i,bC m.length (fun j=>A i j*X j)=bC m.length fun j=>A i j*X (m.idxOf (m.getD j default)):=fun X i=>wJ fun j hj=>by rw[idx j hj]
 refine⟨m.length,A,⟨?_,Us,fun i j hi hj=> ?_⟩,fun y k hk y1 hy=> ?_,fun X hX hsz=> ?_⟩
 ·have t1:tD m.length m.length A= .lst ([.lst (m.map fun h=>qD (dw (ws.map (kW rows)) h))]++hs.map fun h=> .lst (m.map fun o=>qD (bL (ws.map (kW rows)) h o))):=by
   unfold tD;rw[hn,List.range_succ_eq_map,List.map_cons,List.map_map,<- hn,Ia 0 (by omega)]
   rw[K3 (fun h=>D.lst (m.map fun o=>qD (bL (ws.map (kW rows)) h o))) hs];refine congrArg D.lst ?_;show _::_=_::_;refine List.cons_eq_cons.mpr ⟨rfl,List.map_congr_left fun i hi=> ?_⟩;have hi' :=List.mem_range.mp hi;show gA m.length (A (i+1))=_;rw[Ia (i+1) (by omega)]
   refine congrArg D.lst (List.map_congr_left fun o _=> ?_);rw[if_neg (by omega),gs]
  have t2:gA m.length (fun i=>A i m.length)= .lst ([.tup [.int 0,.int 1]]++hs.map fun h=>qD (fC (kW rows) (yW rows) ws h)):=by
   unfold gA;rw[hn,List.range_succ_eq_map,List.map_cons,List.map_map,<- hn];rw[K3 (fun h=>qD (fC (kW rows) (yW rows) ws h)) hs];have a0:A 0 m.length=((0:Int):Rat):=by
    show fX rows ws m 0 m.length=_;unfold fX;rw[if_neg (Nat.lt_irrefl _),if_pos rfl];rfl
   refine congrArg D.lst ?_;show qD (A 0 m.length)::_=_::_;rw[a0,Kf];refine List.cons_eq_cons.mpr ⟨rfl,List.map_congr_left fun i hi=> ?_⟩;show qD (fX rows ws m (i+1) m.length)=_;unfold fX;rw[if_neg (Nat.lt_irrefl _),if_neg (by omega),gs]
  rw[t1,t2]
  rfl
 ·show Kv (fX rows ws m i j);unfold fX;split
  ·split
   ·exact vI (zz0 W _) (n:=23) (by decide) (by decide)
   ·exact vI (zym L W _ _) (n:=24) (by decide) (by decide)
  ·split
   ·exact vI (HY 0) (n:=1) (by decide) (by decide)
   ·exact vI (z0g S.u L W _) (n:=128) (by decide) (by decide)
 ·have z:=S.null (fun h=>y (m.idxOf h)) (fun i hi=>by
   have:=hy i hi;rw[conv] at this;exact this) (m.getD k default) (zv3 hk)
  rw[idx k hk,y1] at z;exact absurd z (by decide)
 ·have a:=S.ans (fun h=>X (m.idxOf h)) (fun i hi=>by
   have:=hX i hi;rw[conv] at this;exact this)
  have e:gA m.length X= .lst (m.map fun h=>qD (X (m.idxOf h))):=by
   unfold gA;rw[K3 (fun h=>qD (X (m.idxOf h))) m];exact congrArg D.lst (List.map_congr_left fun j hj=>by rw[idx j (List.mem_range.mp hj)])
  rw[e];refine h _ a.1 a.2 fun g hg=>hsz _ ?_;exact List.idxOf_lt_length_of_mem hg
theorem z2a(ms:List (List Str)):toD (.lst ((ms.map gl).map .leaf))= .lst (ms.map gl):=by unfold toD;rw[Cm]
theorem BZ.sys{rows:List Rw}{ms:List (List Str)}(G:BZ rows ms)(u:Uq rows){m:List Str}(hm:m∈ms):(∀r∈rows,r.2.1∈m ->∀h∈kW rows r.1,h∈m)/\∀ws:List Str,ws.Nodup ->(∀w,w∈ws↔∃r∈ofM rows m,r.1=w) ->kZ (ofM rows m) ws m:=by
 obtain⟨Ss,F,p⟩:=G.pi;have cl:∀r∈rows,r.2.1∈m ->∀h∈kW rows r.1,h∈m:=fun r hr hh h hk=>by
  obtain⟨S,hS,e⟩:=F.to r hr;obtain⟨f,hf,sub⟩:=p.sub S hS;have h1:r.2.1∈f:=sub _ ((e _).mpr (cP.mpr ⟨r,hr,rfl,rfl⟩));have h2:h∈f:=sub _ ((e _).mpr hk);rw[Kg p.dj hm hf hh h1];exact h2
 refine⟨cl,fun ws nw hw=>⟨u.M m,nw,fun r hr=>(hw _).mpr ⟨r,hr,rfl⟩,Ck (G.sr m hm),fun r hr=>(gM.mp hr).2,fun h hh=> ?_,fun C hC hx=> ?_⟩⟩
 ·obtain⟨S,hS,hs⟩:=(p.co h).mp ⟨m,hm,hh⟩;obtain⟨r,hr,e⟩:=F.of S hS;obtain⟨r',hr',_,e2⟩:=cP.mp ((e h).mp hs);exact⟨r',gM.mpr ⟨hr',by rw[e2];exact hh⟩,e2⟩
 ·have key:=p.min (fun x=>x∈m ->C x) (fun S hS hx y hy ym=> ?_) m hm (by
   obtain⟨x,h1,h2⟩:=hx;exact⟨x,h1,fun _=>h2⟩)
  ·exact fun x hx=>key x hx hx
  ·obtain⟨r,hr,e⟩:=F.of S hS;obtain⟨f,hf,sub⟩:=p.sub S hS;have fm:m=f:=Kg p.dj hm hf ym (sub y hy);have inm:∀z∈S,z∈m:=fun z hz=>by rw[fm];exact sub z hz
   have same:∀z,z∈S↔z∈kW (ofM rows m) r.1:=fun z=>by
    rw[fD];constructor
    ·intro hz;obtain⟨r',h1,h2,h3⟩:=cP.mp ((e z).mp hz);exact⟨r',gM.mpr ⟨h1,by rw[h3];exact inm z hz⟩,h2,h3⟩
    ·rintro⟨r',h1,h2,h3⟩;exact(e z).mpr (cP.mpr ⟨r',(gM.mp h1).1,h2,h3⟩)
   obtain⟨x,hx1,hx2⟩:=hx;obtain⟨r',h1,h2,h3⟩:=fD.mp ((same x).mp hx1);exact hC r.1 ((hw _).mpr ⟨r',h1,h2⟩) ⟨x,(same x).mp hx1,hx2 (inm x hx1)⟩ y ((same y).mp hy)
theorem z3q{rows:List Rw}{m:List Str}{w:Str}:bh (ofM rows m) w=(bh rows w).filter fun r=>decide (r.2.1∈m):=by
 unfold bh ofM;rw[List.filter_filter,List.filter_filter];exact List.filter_congr fun r _=>Bool.and_comm _ _
theorem z1d{rows:List Rw}{m:List Str}{w:Str}(h:∀x∈kW rows w,x∈m):bh (ofM rows m) w=bh rows w:=by
 rw[z3q];refine List.filter_eq_self.mpr fun r hr=>decide_eq_true (h _ ?_);exact fD.mpr ⟨r,(aJ.mp hr).1,(aJ.mp hr).2,rfl⟩
theorem z5v{rows:List Rw}{m:List Str}{h:Str}(hm:h∈m):oX (ofM rows m) h=oX rows h:=by
 unfold oX ofM;rw[List.filter_filter];refine List.filter_congr fun r _=> ?_;by_cases q:r.2.1=h
 ·simp [q,hm]
 ·simp [q]
theorem z5p{rows:List Rw}{m:List Str}{x:Str ->Rat}(cl:∀r∈rows,r.2.1∈m ->∀h∈kW rows r.1,h∈m){h:Str}(hm:h∈m)(e:oY (ofM rows m) x h):oY rows x h:=by
 unfold oY at e⊢;rw[z5v hm] at e;rw[<- e];refine eY fun r hr=> ?_;have hr' :=dg.mp hr;rw[z1d (cl r hr'.1 (by rw[hr'.2];exact hm))]
theorem zwg{rows:List Rw}{x y:Str ->Rat}{h:Str}(e:∀r∈oX rows h,∀s∈bh rows r.1,x s.2.1=y s.2.1)(q:oY rows x h):oY rows y h:=by
 unfold oY at q⊢;rw[<- q];refine eY fun r hr=> ?_;have hr' :=dg.mp hr;have e1:=e r hr r (aJ.mpr ⟨hr'.1,rfl⟩);rw[e1];have e2:ao (bh rows r.1) (fun s=>(s.2.2:Rat) - y s.2.1)=ao (bh rows r.1) fun s=>(s.2.2:Rat) - x s.2.1:=eY fun s hs=>by rw[e r hr s hs]
 rw[e2]
theorem LB.M{rows:List Rw}(L:LB rows)(m:List Str):LB (ofM rows m):=by
 refine⟨zP (List.length_filter_le _ _) L.few,fun r hr=>L.mm r (gM.mp hr).1,fun w=> ?_⟩;rw[z3q];exact zP (List.length_filter_le _ _) (L.wk w)
theorem z3a{rows:List Rw}{ws:List Str}{ps:List (List Str×List D)}(B:zq rows ws ps)(u:Uq rows):ps=ws.map fun w=>(kW rows w,(bh rows w).map fun r=> .int r.2.2):=by
 apply List.ext_getElem
 ·rw[List.length_map];exact B.len.symm
 ·intro i h1 h2;have hw:i<ws.length:=by rw[B.len];exact h1
  rw[List.getElem_map];exact B.ex u i ws[i] ps[i] (zZ hw) (zZ h1)
theorem z2l(p:List Str×List D):toD (ql p)= .dic (p.1.map .inr) p.2:=by
 unfold ql toD;rw[Cm]
structure Gm (rows:List Rw) (m:List Str) (x:Str ->Rat):Prop where
 ev:∀h∈m,oY rows x h
 em:Tv rows x m
 sz:∀h∈m,Sz 8500 (x h)
theorem Gm.congr{rows:List Rw}{m:List Str}{x y:Str ->Rat}(cl:∀r∈rows,r.2.1∈m ->∀h∈kW rows r.1,h∈m)(g:Gm rows m x)(e:∀h∈m,x h=y h):Gm rows m y:=by
 refine⟨fun h hh=>zwg (fun r hr s hs=>e _ ?_) (g.ev h hh),?_,fun h hh=>by rw[<- e h hh];exact g.sz h hh⟩
 ·have hr' :=dg.mp hr;have hs' :=aJ.mp hs;exact cl r hr'.1 (by rw[hr'.2];exact hh) _ (fD.mpr ⟨s,hs'.1,hs'.2,rfl⟩)
 ·have:=g.em;unfold Tv at this⊢;rw[<- this];exact eY fun r hr=>(e _ (gM.mp hr).2).symm
theorem zri{hs:List Str}{x y:Str ->Rat}(e:∀h∈hs,x h=y h):gB hs x=gB hs y:=by
 unfold gB;rw[List.map_congr_left (g:=fun h=>qD (y h)) fun h hh=>by rw[e h hh]]
theorem zwe{hs:List Str}{h:Str}{x:Str ->Rat}(n:h∉hs):T.dic (dH (hs.map .inr) (.inr h)) ((bQ (hs.map .inr) (hs.map fun h=>qD (x h)) (.inr h) (qD (x h))).map .leaf)=gB (hs++ [h]) x:=by
 rw[Uc];unfold addH bQ gB;rw[if_neg n,wQ,decide_eq_false n,if_neg Bool.false_ne_true];simp
theorem Cq{α:Type}{l:List α}{i:Nat}(h:i<l.length):l.take (i+1)=l.take i++ [l[i]]:=by rw[List.take_add_one,List.getElem?_eq_getElem h];rfl
theorem BZ.hand{rows:List Rw}{ms:List (List Str)}(G:BZ rows ms){m:List Str}(hm:m∈ms){x:Str}(hx:x∈m):∃r∈rows,r.2.1=x:=by
 obtain⟨Ss,F,p⟩:=G.pi;obtain⟨S,hS,hs⟩:=(p.co x).mp ⟨m,hm,hx⟩;obtain⟨r,hr,e⟩:=F.of S hS;obtain⟨r',hr',_,e2⟩:=cP.mp ((e x).mp hs);exact⟨r',hr',e2⟩
theorem zrw{K:W.Frag}{c:Cls}{ds Q Ex}(h:Hw c ds Q Ex):zh8 K c (tH Q) (aH 6 ds) fun _=>Ex:=by
 obtain⟨rows,U,rfl,u,L,hU,hr,h⟩:=h;have s1:=tG;have few:=L.few;intro as;show zf8 K c (tH Q) [.pu (aK rows),.tr as (.dic [] []),.no,.no,.no,.no] fun _=>Ex;refine⟨rows,U,rfl,by omega,by omega,hr,fun ms G=> ?_⟩
 simp only [z2a];obtain⟨Ss,F,p⟩:=G.pi;have nd:ms.flatten.Nodup:=Kh p.dj fun f hf=>Ck (G.sr f hf);refine⟨fun i Γ=>∃(as:List Addr) (x:Str ->Rat) (y2 y3 y4 y5:Slot),(∀m∈ms.take i,Gm rows m x)/\Γ= [.pu (aK rows),.tr as (gB (ms.take i).flatten x),y2,y3,y4,y5],⟨as,fun _=>0,_,_,_,_,fun m hm=>by simp at hm,rfl⟩,?_,?_⟩
 ·rintro i d _ hi ⟨as,x,y2,y3,y4,y5,hg,rfl⟩;have hi' :i<ms.length:=by
   have:=(zW.mp hi).1
   rwa [List.length_map] at this
  rw[List.getElem?_map,List.getElem?_eq_getElem hi'] at hi;cases hi;have hm:ms[i]∈ms:=yZ hi';have apart:∀h∈ms[i],h∉ (ms.take i).flatten:=fun h hh z=>by
   have:=nd;rw[<- List.take_append_drop i ms,List.flatten_append,List.nodup_append] at this;refine this.2.2 h z h ?_ rfl;refine List.mem_flatten.mpr ⟨ms[i],?_,hh⟩;rw[List.drop_eq_getElem_cons hi'];exact zY
  have cl:=(G.sys u hm).1;have tk:ms.take (i+1)=ms.take i++ [ms[i]]:=Cq hi';have fl:(ms.take (i+1)).flatten=(ms.take i).flatten++ms[i]:=by rw[tk,List.flatten_append];simp
  generalize em:ms[i]=m at*;have sub:∀z∈m,z∈U:=fun z hz=>by
   obtain⟨r,h1,h2⟩:=G.hand hm hz;rw[<- h2];exact hr r h1
  have ndm:m.Nodup:=Ck (G.sr m hm);have Us:m.length<=12:=zP (wH ndm sub) hU;show zfh K c _ [.pu (aK rows),.tr as (gB (ms.take i).flatten x),.pu (gl m),y3,y4,y5] _;show bJ _ (rows.map qj) _;refine KJ qj qj (fun r=>decide (r.2.1∈m)) (fun r hr P hp=> ?_) ?_
  ·refine⟨.str r.2.1,uR (j:=1) rfl,rfl,zta m,?_⟩;show if (if false then _ else inD (.str r.2.1) (m.map .str))=true then _ else _;rw[Ub];by_cases q:r.2.1∈m
   ·rw[decide_eq_true q] at hp⊢;exact hp
   ·rw[decide_eq_false q] at hp⊢;exact hp
  refine⟨ofM rows m,rfl,zP (List.length_filter_le _ _) (by omega),fun ws ps B=> ?_⟩
  have ep:=z3a B (u.M m);have ex:eO (ps.map ql)=ws.map (uJ (ofM rows m)):=by
   rw[KQ,ep,List.map_map];exact List.map_congr_left fun w _=>z2l _
  refine⟨ws.map .inr,eO (ps.map ql),by simp only [toD];rfl,?_⟩
  rw[ex];have W:oF (ofM rows m) ws:=⟨zP B.lw (L.M m).few,fun w hw z=>by
   obtain⟨r,h1,h2⟩:=(B.wm w).mp hw;have:=aJ.mpr ⟨h1,h2⟩;rw[z] at this;cases this⟩
  show zed K c _ [.pu (aK rows),.tr as (gB (ms.take i).flatten x),.pu (gl m),.pu (jU (ofM rows m) ws),y4,y5] _;refine⟨ofM rows m,ws,m,rfl,(G.sys u hm).2 ws B.nd B.wm,L.M m,W,p.ne m hm,Us,fun xm ev sm sz=> ?_⟩
  let x' :Str ->Rat:=fun z=>if z∈m then xm z else x z
  have ex1:∀z∈m,x' z=xm z:=fun z hz=>if_pos hz;have ex0:∀z∈ (ms.take i).flatten,x' z=x z:=fun z hz=>if_neg fun q=>apart z q hz;have gm:Gm rows m x' :=Gm.congr cl ⟨fun z hz=>z5p cl hz (ev z hz),sm,sz⟩ fun z hz=>(ex1 z hz).symm;have gms:∀f∈ms.take (i+1),Gm rows f x' :=fun f hf=>by
   rw[tk] at hf;rcases zU.mp hf with hf | hf
   ·exact Gm.congr (G.sys u (List.mem_of_mem_take hf)).1 (hg f hf) fun z hz=>(ex0 z (List.mem_flatten.mpr ⟨f,hf,hz⟩)).symm
   ·rw[List.mem_singleton.mp hf];exact gm
  have ez:jT (m.map D.str) (m.map fun h=>qD (xm h))=m.map fun h=> .tup [.str h,qD (x' h)]:=by
   unfold jT;apply List.ext_getElem
   ·simp
   ·intro j h1 h2;simp only [List.getElem_zipWith,List.getElem_map];rw[ex1 _ (List.getElem_mem _)]
  show lZ (jT (m.map D.str) (m.map fun h=>qD (xm h))) (jQ 2 (bI (hName 4) (bI (hName 5) jP))) (zfc K c) _ _ [.pu (aK rows),.tr as (gB (ms.take i).flatten x),.pu (gl m),.pu (jU (ofM rows m) ws),y4,y5];rw[ez];have fll:(ms.take i).flatten.length+m.length<=1000:=by
   have h1:((ms.take (i+1)).flatten).Nodup:=by
    rw[<- List.take_append_drop (i+1) ms,List.flatten_append,List.nodup_append] at nd;exact nd.1
   have:=wH h1 (U:=U) fun z hz=>by
    obtain⟨f,hf,hzf⟩:=List.mem_flatten.mp hz;obtain⟨r,g1,g2⟩:=G.hand (List.mem_of_mem_take hf) hzf;rw[<- g2];exact hr r g1
   rw[fl,List.length_append] at this;omega
  refine⟨fun j Γ=>∃(as:List Addr) (y4 y5:Slot),Γ= [.pu (aK rows),.tr as (gB ((ms.take i).flatten++m.take j) x'),.pu (gl m),.pu (jU (ofM rows m) ws),y4,y5],⟨as,y4,y5,?_⟩,?_,?_⟩
  ·rw[List.take_zero,List.append_nil,zri fun z hz=>ex0 z hz]
  ·rintro j d _ hj ⟨as,z4,z5,rfl⟩;have hj' :j<m.length:=by
    have:=(zW.mp hj).1
    rwa [List.length_map] at this
   rw[List.getElem?_map,List.getElem?_eq_getElem hj'] at hj;cases hj;have nn:m[j]∉ (ms.take i).flatten++m.take j:=fun z=>by
    rcases zU.mp z with z | z
    ·exact apart _ (yZ hj') z
    ·have key:=List.pairwise_iff_getElem.mp ndm;obtain⟨q,hq,e⟩:=List.mem_iff_getElem.mp z;rw[List.length_take] at hq;rw[List.getElem_take] at e;exact key q j (by omega) hj' (by omega) e
   refine⟨rfl,rfl,⟨as,_,rfl⟩,.inr m[j],as,_,((ms.take i).flatten++m.take j).map fun h=>qD (x' h),rfl,rfl,?_,?_⟩
   ·rw[List.length_map,List.length_append,List.length_take];omega
   ·refine⟨as,.pu (.str m[j]),.pu (qD (x' m[j])),?_⟩;show [Slot.pu (aK rows),Slot.tr as (T.dic (dH (((ms.take i).flatten++m.take j).map .inr) (.inr m[j])) ((bQ (((ms.take i).flatten++m.take j).map .inr) (((ms.take i).flatten++m.take j).map fun h=>qD (x' h)) (.inr m[j]) (qD (x' m[j]))).map .leaf)),_,_,_,_]=_;rw[zwe nn,List.append_assoc,<- Cq hj']
  ·rintro _ ⟨as,z4,z5,rfl⟩;rw[List.length_map,List.take_length,<- fl];exact⟨as,x',_,_,_,_,gms,rfl⟩
 ·rintro _ ⟨as,x,y2,y3,y4,y5,hg,rfl⟩;rw[List.length_map,List.take_length] at hg⊢;exact h ms x ⟨G,fun m hm=>(hg m hm).ev,fun m hm=>(hg m hm).em,fun m hm=>(hg m hm).sz⟩
theorem rE{n:Nat}(i j:Int):mz n (.int i) (.int j):=by cases n<;>simp [mz]
theorem zno{K:W.Frag}{c:Cls}{ds Q Ex}(h:Hy c ds Q Ex):Ky K c (fin Q) (aH 5 ds) fun _=>Ex:=by
 obtain⟨a,b,d,e,n,rfl,he,h⟩:=h;show Ky K c (fin Q) [.pu (.int a),.pu (.int b),.pu (.int d),.pu (.int e),.pu (.int n)] fun _=>Ex;unfold Ky
 and_intros
 refine⟨rE _ _,?_⟩;split
 ·exact⟨by decide,h _⟩
 ·unfold zek
  and_intros
  refine⟨rE _ _,?_⟩;split
  ·refine⟨he,rE _ _,?_⟩;cases eF (.int d) (.int (b.fmod e)) with
   | true=>exact h true
   | false=>exact⟨he,rE _ _,h _⟩
  ·unfold zez
   and_intros
   refine⟨rE _ _,?_⟩;split
   ·refine⟨by decide,by decide,rE _ _,?_⟩
    cases eF (.int (b.fmod 2)) (.int (d.fmod 2)) with
    | true=>exact⟨by decide,h _⟩
    | false=>exact h false
   ·exact h true
theorem wV:(Str.ofString "abcdefghijklmnopqrstuvwxyz").cps.toList= [97,98,99,100,101,102,103,104,105,106,107,108,109,110,111,112,113,114,115,116,117,118,119,120,121,122]:=by decide+kernel
theorem Aa:(Str.ofString "abcdefghijklmnopqrstuvwxyz").length=26:=by
 show(Str.ofString "abcdefghijklmnopqrstuvwxyz").cps.size=26;rw[<- Array.length_toList,wV];rfl
def uM(b:Bool):Int:=if b then 1 else 0
theorem mF{i:Int}{k:Nat}(h:i.natAbs<2^k)(hk:k<=9000:=by decide):aU i<=9000:=zP (eU h) hk
theorem z1f(rs:List Rw){k:Nat}(h:k<=rs.length):cutD (rs.map qj) (some (k:Int)) none=(rs.drop k).map qj:=by
 unfold cutD HT.sIx;simp only [List.length_map];rw[if_neg (by omega),Int.toNat_natCast,Nat.min_eq_left h,<- List.map_drop,<- List.map_take,List.take_of_length_le (by rw[List.length_drop];omega)]
theorem z1b(rs:List Rw){k:Nat}(h:k<=rs.length):cutD (rs.map qj) none (some (k:Int))=(rs.take k).map qj:=by
 unfold cutD HT.sIx;simp only [List.length_map];rw[if_neg (by omega),Int.toNat_natCast,Nat.min_eq_left h,List.drop_zero,Nat.sub_zero,<- List.map_take]
theorem zzz{α:Type}{f:α ->D}{xs:List α}{k:Nat}(h:k<xs.length):jE (xs.map f) (k:Int)=some (f xs[k]):=uR (by rw[List.getElem?_map,List.getElem?_eq_getElem h];rfl)
theorem Ib{k:Nat}(h:k<26):jE (Str.ofString "abcdefghijklmnopqrstuvwxyz").cps.toList (k:Int)=some (97+k):=by
 refine uR ?_;rw[wV];have:∀k:Fin 26,[97,98,99,100,101,102,103,104,105,106,107,108,109,110,111,112,113,114,115,116,117,118,119,120,121,122][k.1]?=some (97+k.1):=by decide
 exact this ⟨k,h⟩
theorem Ie{i:Int}(h:0<=i/\i<26):jE (Str.ofString "abcdefghijklmnopqrstuvwxyz").cps.toList i=some (97+i.toNat):=by
 have e:i=((i.toNat:Nat):Int):=by omega
 have:=Ib (k:=i.toNat) (by omega)
 rw[<- e] at this;exact this
def txt(n:Nat)(f:Nat ->Nat):Str:=⟨((List.range n).map f).toArray⟩
theorem zxo(n:Nat)(f:Nat ->Nat):txt n f++ (⟨#[f n]⟩:Str)=txt (n+1) f:=by
 show(⟨((List.range n).map f).toArray++ #[f n]⟩:Str)=⟨((List.range (n+1)).map f).toArray⟩
 congr 1
 rw[List.range_succ,List.map_append];simp
theorem z0d{n m:Nat}{f g:Nat ->Nat}(h:txt n f=txt m g):n=m/\∀j,j<n ->f j=g j:=by
 have e:(List.range n).map f=(List.range m).map g:=by
  have:=congrArg (fun s:Str=>s.cps.toList) h
  simpa [txt] using this
 have l:n=m:=by simpa using congrArg List.length e
 subst l;refine⟨rfl,fun j hj=> ?_⟩;have:=congrArg (fun l=>l[j]?) e
 simpa [hj] using this
theorem z1t(n:Nat)(f:Nat ->Nat):(txt n f).length=n:=by
 show((List.range n).map f).toArray.size=n;simp
theorem zsf{α:Type}{g:Nat ->α}{m:Nat}(h:∀i j,i<m ->j<m ->g i=g j ->i=j):((List.range m).map g).Nodup:=by
 refine Kr (R:=fun a b=>a≠b) List.nodup_range fun a ha b hb n e=>n (h a b (List.mem_range.mp ha) (List.mem_range.mp hb) e)
theorem zoj{K:W.Frag}{c:Cls}{ds Q Ex}(h:Cg c ds Q Ex):Kw K c (fin Q) (aH 10 ds) fun _=>Ex:=by
 obtain⟨n,m,rfl,hm,h⟩:=h;have line:(1000:Nat)<=sizeLine:=by decide
 let L:Str:=Str.ofString "abcdefghijklmnopqrstuvwxyz"
 have main:∀sz:Nat,1<=sz/\sz<=8 ->TJ K c (fin Q) [.pu (.int n),.pu (.int m),.pu (.str L),.pu (.int sz),.no,.no,.no,.no,.no,.no] fun _=>Ex:=by
  intro sz hsz;unfold TJ
  and_intros
  refine⟨⟨by decide,zP (eU (k:=5) (by decide)) (by decide)⟩,by omega,?_⟩
  obtain⟨at_,ea,hat⟩:=zu (i:=n.fdiv 24) (n:=sz) (by omega)
  rw[ea]
  let one:Bool:=decide (n.fmod 3=1)
  let num:Nat ->Int:=fun j=>(n.fdiv 24*48271+ (j:Int)* (j:Int)*69621+ (j:Int)*7).fmod 2147483647
  let f:Nat ->Nat ->Nat:=fun k j=>97+ ((num j+ (k:Int)*uM (decide ((j:Int)=(at_:Int))&& !one)).fmod 26).toNat
  let ln:Nat ->Nat:=fun k=>sz+k* (if one=true then 1 else 0)
  have Bs:∀k,k<20 ->ln k<=28:=fun k hk=>by
   show sz+k* (if one=true then 1 else 0)<=28;split<;>omega
  let nm:Nat ->Str:=fun k=>txt (ln k) (f k)
  have inj:∀i j,i<m ->j<m ->nm i=nm j ->i=j:=fun i j hi hj e=>by
   obtain⟨e1,e2⟩:=z0d e;have e1' :sz+i* (if one=true then 1 else 0)=sz+j* (if one=true then 1 else 0):=e1;by_cases o:one=true
   ·rw[if_pos o] at e1';omega
   ·have e3:=e2 at_ (by show at_<sz+_;omega)
    have e3' :97+ ((num at_+ (i:Int)*uM (decide ((at_:Int)=(at_:Int))&& !one)).fmod 26).toNat=97+ ((num at_+ (j:Int)*uM (decide ((at_:Int)=(at_:Int))&& !one)).fmod 26).toNat:=e3;rw[decide_eq_true rfl] at e3';have ob:one=false:=by simpa using o
    rw[ob] at e3';have l1:=wO (i:=num at_+ (i:Int)*uM (true&& !false)) (m:=26) (by decide)
    have l2:=wO (i:=num at_+ (j:Int)*uM (true&& !false)) (m:=26) (by decide)
    have b1:uM (true&& !false)=1:=rfl;rw[b1,Int.mul_one] at l1 l2;rw[b1,Int.mul_one,Int.mul_one] at e3';rw[Int.fmod_eq_emod_of_nonneg _ (by decide)] at e3' l1 l2
    rw[Int.fmod_eq_emod_of_nonneg _ (by decide)] at e3'
    omega
  unfold zff
  and_intros
  refine⟨Nat.zero_le _,?_⟩;unfold zfg;refine⟨⟨by omega,by omega⟩,fun k Γ=>∃(x1 x2 x3 x4:Slot),Γ= [.pu (.int n),.pu (.int m),.pu (.str L),.pu (.int sz),.pu (.int at_),.ow (((List.range k).map nm).map .str),x1,x2,x3,x4],⟨_,_,_,_,rfl⟩,?_,?_⟩
  ·rintro k _ hk ⟨x1,x2,x3,x4,rfl⟩;have Ut:k<20:=by omega
   show TF K c _ [.pu (.int n),.pu (.int m),.pu (.str L),.pu (.int sz),.pu (.int at_),.ow (((List.range k).map nm).map .str),.pu (.int (0+ (k:Int))),x2,x3,x4] _;rw[Int.zero_add];unfold TF
   and_intros
   unfold zdo
   and_intros
   refine⟨by show(3:Int)≠0;decide,rE _ _,?_⟩
   and_intros
   rw[Ci];have hb:(if decide (n.fmod 3=1)=true then(1:Int) else 0)=((if one=true then 1 else 0:Nat):Int):=by
    show(if one=true then(1:Int) else 0)=_;split<;>rfl
   rw[hb];refine⟨.inl (zP (eU (k:=5) (by omega)) (by decide)),?_⟩
   have hr:(sz:Int)+ (k:Int)* ((if one=true then 1 else 0:Nat):Int)=((ln k:Nat):Int):=by
    show _=((sz+k* (if one=true then 1 else 0):Nat):Int);rw[Int.natCast_add,Int.natCast_mul]
   rw[hr];have abp:=Bs k Ut;refine⟨⟨by omega,by omega⟩,fun j Γ=>∃x3 x4,Γ= [.pu (.int n),.pu (.int m),.pu (.str L),.pu (.int sz),.pu (.int at_),.ow (((List.range k).map nm).map .str),.pu (.int k),.pu (.str (txt j (f k))),x3,x4],⟨_,_,rfl⟩,?_,?_⟩
   ·rintro j _ hj ⟨y3,y4,rfl⟩;have abq:j<28:=by omega
    show Tz K c _ [.pu (.int n),.pu (.int m),.pu (.str L),.pu (.int sz),.pu (.int at_),.ow (((List.range k).map nm).map .str),.pu (.int k),.pu (.str (txt j (f k))),.pu (.int (0+ (j:Int))),y4] _;rw[Int.zero_add];have bj:aU (j:Int)<=64:=zP (eU (k:=5) (by omega)) (by decide)
    unfold Tz
    and_intros
    refine⟨⟨by decide,zP (eU (k:=5) (by decide)) (by decide)⟩,.inr (.inl (eU (by decide))),.inl bj,.inr (.inl (eU (by decide))),.inl bj,by decide,?_⟩
    show Tw K c _ [.pu (.int n),.pu (.int m),.pu (.str L),.pu (.int sz),.pu (.int at_),.ow (((List.range k).map nm).map .str),.pu (.int k),.pu (.str (txt j (f k))),.pu (.int j),.pu (.int (num j))] _;unfold Tw
    and_intros
    refine⟨rE _ _,?_⟩;have step:∀t:Bool,t=(decide ((j:Int)=(at_:Int))&& !one) ->j6 (k:Int) (uM t)/\ (26:Int)≠0/\∃ch:Nat,L.length<=sizeLine/\jE L.cps.toList ((num j+ (k:Int)*uM t).fmod 26)=some ch/\ (txt j (f k)).length+ (⟨#[ch]⟩:Str).length<=sizeLine/\∃z3 z4,[Slot.pu (.int n),.pu (.int m),.pu (.str L),.pu (.int sz),.pu (.int at_),.ow (((List.range k).map nm).map .str),.pu (.int k),.pu (.str (txt j (f k)++ (⟨#[ch]⟩:Str))),.pu (.int j),.pu (.int (num j))]= [.pu (.int n),.pu (.int m),.pu (.str L),.pu (.int sz),.pu (.int at_),.ow (((List.range k).map nm).map .str),.pu (.int k),.pu (.str (txt (j+1) (f k))),z3,z4]:=fun t et=>by
     have hch:=Ie (wO (i:=num j+ (k:Int)*uM t) (m:=26) (by decide))
     refine⟨.inl (zP (eU (k:=5) (by omega)) (by decide)),by decide,_,by rw[show L.length=26 from Aa];omega,hch,by rw[z1t];show j+1<=sizeLine;omega,.pu (.int j),.pu (.int (num j)),?_⟩
     subst et;rw[show(97+ ((num j+ (k:Int)*uM (decide ((j:Int)=(at_:Int))&& !one)).fmod 26).toNat)=f k j from rfl,zxo]
    rw[Ci];by_cases q:(j:Int)=(at_:Int)
    ·rw[decide_eq_true q];rw[decide_eq_true q] at step;refine⟨by decide,rE _ _,?_⟩
     rw[Ci];exact step _ rfl
    ·rw[decide_eq_false q];rw[decide_eq_false q] at step;exact step false rfl
   ·rintro _ ⟨y3,y4,rfl⟩;rw[Int.toNat_natCast];refine⟨⟨_,rfl⟩,by rw[List.length_map,List.length_map,List.length_range];omega,.pu (.int k),.pu (.str (txt (ln k) (f k))),y3,y4,?_⟩
    rw[List.range_succ,List.map_append,List.map_append]
    rfl
  ·rintro _ ⟨x1,x2,x3,x4,rfl⟩;rw[Int.toNat_natCast];exact h _ (by simp) (zsf inj)
 show Kw K c (fin Q) [.pu (.int n),.pu (.int m),.no,.no,.no,.no,.no,.no,.no,.no] fun _=>Ex;unfold Kw
 and_intros
 unfold zfi
 and_intros
 refine⟨⟨by decide,zP (eU (k:=2) (by decide)) (by decide)⟩,by decide,?_⟩
 obtain⟨t8,e8,h8⟩:=zu (i:=n.fdiv 3) (n:=8) (by decide)
 rw[show(n.fdiv 3).fmod 8=(t8:Int) from e8];unfold zfb
 and_intros
 refine⟨by decide,rE _ _,?_⟩
 split
 ·exact main 1 (by omega)
 ·have:=main (1+t8) (by omega)
  rw[Int.natCast_add] at this;exact this
theorem zz3{a b:List Rw}(p:a.Perm b)(u:Uq b):Uq a:=(List.Perm.pairwise_iff (R:=fun(a b:Rw)=>¬(a.1=b.1/\a.2.1=b.2.1)) (fun h z=>h ⟨z.1.symm,z.2.symm⟩) p).mpr u
theorem zry{K:W.Frag}{c:Cls}{ds Q Ex}(h:HB c ds Q Ex):Kz K c (fin Q) (aH 12 ds) fun _=>Ex:=by
 obtain⟨ns,hands,works,rfl,hl,h1,h5,h8,h⟩:=h;have line:(1000:Nat)<=sizeLine:=by decide
 let S:D:= .lst (ns.map .int)
 have main:∀(way most:Int),0<most ->most<=10^12 ->TX K c (fin Q) [.pu S,.pu (.int hands),.pu (.int works),.pu (.int way),.pu (.int most),.no,.no,.no,.no,.no,.no,.no] fun _=>Ex:=by
  intro way most hm0 hm1;have Ig:most≠0:=by omega
  unfold TX
  and_intros
  refine⟨ns,4,rfl,hl,by omega,_,works,rfl,by omega,fun nms hnm nnd=> ?_⟩
  unfold zgg
  and_intros
  refine⟨ns,5,rfl,hl,by omega,_,hands,rfl,by omega,fun vJ hpp pnd=> ?_⟩
  unfold zft
  and_intros
  refine⟨Nat.zero_le _,?_⟩;unfold zgd;refine⟨⟨by omega,by omega⟩,fun w Γ=>∃(rows:List Rw) (x8 x9 x10:Slot),rows.length<=w*hands/\ (∀r∈rows,r.2.1∈vJ)/\ (Uq rows/\ (∀r∈rows,r.2.2.natAbs<2^40)/\∀r∈rows,∃v,v<w/\nms[v]?=some r.1)/\Γ= [.pu S,.pu (.int hands),.pu (.int works),.pu (.int way),.pu (.int most),.pu (.lst (nms.map .str)),.pu (.lst (vJ.map .str)),.ow (rows.map qj),x8,x9,x10,.no],⟨[],_,_,_,by simp,fun r hr=>by(cases hr),⟨List.Pairwise.nil,fun r hr=>by(cases hr),fun r hr=>by(cases hr)⟩,rfl⟩,?_,?_⟩
  ·rintro w _ hw ⟨rows,x8,x9,x10,hrl,wW,⟨uq,mk,wv⟩,rfl⟩;have hw8:w<works:=by omega
   have wU:w*hands<=8*5:=Nat.mul_le_mul (by omega) h5
   show TV K c _ [.pu S,.pu (.int hands),.pu (.int works),.pu (.int way),.pu (.int most),.pu (.lst (nms.map .str)),.pu (.lst (vJ.map .str)),.ow (rows.map qj),.pu (.int (0+ (w:Int))),x9,x10,.no] _;rw[Int.zero_add];unfold TV;refine⟨⟨by omega,by omega⟩,fun q Γ=>∃(rows:List Rw) (x9 x10:Slot),rows.length<=w*hands+q/\ (∀r∈rows,r.2.1∈vJ)/\ (Uq rows/\ (∀r∈rows,r.2.2.natAbs<2^40)/\∀r∈rows,∃v,nms[v]?=some r.1/\ (v<w\/v=w/\∃o,o<q/\vJ[o]?=some r.2.1))/\Γ= [.pu S,.pu (.int hands),.pu (.int works),.pu (.int way),.pu (.int most),.pu (.lst (nms.map .str)),.pu (.lst (vJ.map .str)),.ow (rows.map qj),.pu (.int (w:Int)),x9,x10,.no],⟨rows,_,_,hrl,wW,⟨uq,mk,fun r hr=>by obtain⟨v,h1,h2⟩:=wv r hr;exact⟨v,h2,.inl h1⟩⟩,rfl⟩,?_,?_⟩
   ·rintro q _ hq ⟨rows,x9,x10,hrl,wW,⟨uq,mk,wv⟩,rfl⟩;have uh:q<hands:=by omega
    show TQ K c _ [.pu S,.pu (.int hands),.pu (.int works),.pu (.int way),.pu (.int most),.pu (.lst (nms.map .str)),.pu (.lst (vJ.map .str)),.ow (rows.map qj),.pu (.int (w:Int)),.pu (.int (0+ (q:Int))),x10,.no] _;rw[Int.zero_add];unfold TQ
    and_intros
    refine⟨.inl (zP (eU (k:=4) (by omega)) (by decide)),ns,6+w*hands+q,?_,hl,by omega,?_⟩
    ·rw[Int.natCast_add,Int.natCast_add,Int.natCast_mul];rfl
    generalize iu ns (6+w*hands+q)=cv;unfold zee
    and_intros
    refine⟨way,(w:Int),(q:Int),(hands:Int),cv,rfl,by omega,fun t=> ?_⟩
    cases t with
    | false=>exact⟨rows,_,_,by omega,wW,⟨uq,mk,fun r hr=>by obtain⟨v,h1,h2⟩:=wv r hr;exact⟨v,h1,h2.imp id fun⟨a,o,b,c⟩=>⟨a,o,by omega,c⟩⟩⟩,rfl⟩
    | true=>
     refine⟨⟨_,rfl⟩,_,zzz (by omega),_,zzz (by omega),⟨by decide,mF (k:=4) (by decide)⟩,Ig,?_⟩
     refine⟨by show(3:Nat)<=sizeLine;omega,by rw[List.length_map];omega,rows++ [(nms[w],vJ[q],(cv.fdiv 12).fmod most)],_,_,by rw[List.length_append,List.length_singleton];omega,fun r hr=> ?_,⟨?_,fun r hr=> ?_,fun r hr=> ?_⟩,by rw[List.map_append];rfl⟩
     ·rcases zU.mp hr with hr | hr
      ·exact wW r hr
      ·rw[List.mem_singleton.mp hr];exact yZ _
     ·refine List.pairwise_append.mpr ⟨uq,List.pairwise_singleton _ _,fun a ha b hb z=> ?_⟩;rw[List.mem_singleton.mp hb] at z;obtain⟨v,h1,h2⟩:=wv a ha;rw[z.1] at h1;obtain⟨hv,ev⟩:=zW.mp h1;have evw:v=w:=KN nnd hv (by omega) ev
      rcases h2 with h2 | ⟨_,o,ho,h3⟩
      ·omega
      ·rw[z.2] at h3;obtain⟨hv',ev'⟩:=zW.mp h3;have:=KN pnd hv' (by omega) ev'
       omega
     ·rcases zU.mp hr with hr | hr
      ·exact mk r hr
      ·rw[List.mem_singleton.mp hr];have l:=wO (i:=cv.fdiv 12) (m:=most) hm0;show((cv.fdiv 12).fmod most).natAbs<2^40;omega
     ·rcases zU.mp hr with hr | hr
      ·obtain⟨v,h1,h2⟩:=wv r hr;exact⟨v,h1,h2.imp id fun⟨a,o,b,c⟩=>⟨a,o,by omega,c⟩⟩
      ·rw[List.mem_singleton.mp hr];exact⟨w,zZ _,.inr ⟨rfl,q,by omega,zZ _⟩⟩
   ·rintro _ ⟨rows,x9,x10,hrl,wW,⟨uq,mk,wv⟩,rfl⟩;refine⟨rows,_,_,_,?_,wW,⟨uq,mk,fun r hr=> ?_⟩,rfl⟩
    ·rw[Nat.succ_mul];omega
    ·obtain⟨v,h1,h2⟩:=wv r hr;exact⟨v,by rcases h2 with h2 | h2<;>omega,h1⟩
  ·rintro _ ⟨rows,x8,x9,x10,hrl,wW,⟨uq,mk,wv⟩,rfl⟩;have wU:works*hands<=8*5:=Nat.mul_le_mul h8 h5;have abr:rows.length<=40:=zP hrl (by simpa using wU)
   dsimp only;unfold zfw
   and_intros
   refine⟨ns,3,rfl,hl,by omega,⟨by decide,mF (k:=3) (by decide)⟩,trivial,?_,?_⟩
   ·rw[List.length_map];omega
   obtain⟨t,et,ht⟩:=zu (i:=(iu ns 3).fdiv 4) (n:=rows.length+1) (Nat.succ_pos _);rw[show(((rows.map qj).length:Nat):Int)+1=((rows.length+1:Nat):Int) by rw[List.length_map];rfl,et]
   unfold zf6
   and_intros
   rw[z1f rows (by omega),z1b rows (by omega)]
   refine⟨by rw[List.length_map,List.length_map,List.length_drop,List.length_take];omega,?_⟩
   rw[<- List.map_append];have pm:(rows.drop t++rows.take t).Perm rows:=by
    have:=List.perm_append_comm (l₁:=rows.drop t) (l₂:=rows.take t)
    rwa [List.take_append_drop] at this
   refine h (rows.drop t++rows.take t) vJ (by rw[List.length_append,List.length_drop,List.length_take];omega) (by omega) (fun r hr=>wW r (pm.mem_iff.mp hr)) (zz3 pm uq) fun r hr=>mk r (pm.mem_iff.mp hr)
 show Kz K c (fin Q) [.pu S,.pu (.int hands),.pu (.int works),.no,.no,.no,.no,.no,.no,.no,.no,.no] fun _=>Ex;unfold Kz
 and_intros
 refine⟨ns,2,rfl,hl,by omega,by decide,?_⟩
 unfold zf9
 and_intros
 refine⟨show uP 10 12 from ⟨by decide,by decide,by decide⟩,by show(4:Nat)<=sizeLine;omega,ns,3,rfl,hl,by omega,by decide,?_⟩
 obtain⟨t,et,ht⟩:=zu (i:=iu ns 3) (n:=4) (by decide)
 rw[show(4:Int)=((4:Nat):Int) from rfl,et]
 match t,ht with
 | 0,_=>exact⟨_,rfl,main _ _ (by decide) (by decide)⟩
 | 1,_=>exact⟨_,rfl,main _ _ (by decide) (by decide)⟩
 | 2,_=>exact⟨_,rfl,main _ _ (by decide) (by decide)⟩
 | 3,_=>exact⟨_,rfl,main _ _ (by decide) (by decide)⟩
theorem zkn{K:W.Frag}{c:Cls}{ds Q Ex}(h:HD c ds Q Ex):ze9 K c (fin Q) (aH 2 ds) fun _=>Ex:=by
 obtain⟨i,j,rfl,h⟩:=h;refine⟨fun m Γ=>∃a b:Int,Γ= [.pu (.int a),.pu (.int b)]/\0<=a/\0<=b/\m=b.natAbs/\Int.gcd a b=Int.gcd i j,⟨_,(if i<0 then -i else i),(if j<0 then -j else j),rfl,by split<;>omega,by split<;>omega,rfl,?_⟩,?_⟩
 ·have e1:(if i<0 then -i else i)=(i.natAbs:Int):=by split<;>omega
  have e2:(if j<0 then -j else j)=(j.natAbs:Int):=by split<;>omega
  rw[e1,e2];rfl
 rintro m _ ⟨a,b,rfl,ha,hb,rfl,hg⟩;show if decide (0<b)=true then _ else _;by_cases hz:0<b
 ·rw[if_pos (by simpa using hz)]
  have h0:b≠0:=by omega
  refine⟨h0,_,S5 h0,b,a.fmod b,rfl,hb,?_,rfl,by rw[zpj,hg]⟩
  rw[Int.fmod_eq_emod_of_nonneg _ hb];exact Int.emod_nonneg _ h0
 ·rw[if_neg (by simpa using hz)]
  have:b=0:=by omega
  subst this;rw[Int.gcd_zero_right] at hg;show Q (.int a);have e:a=((Int.gcd i j:Nat):Int):=by omega
  rw[e];exact h
theorem Ih{x:Str ->D}{h:Str}:∀{hs:List Str},dI (hs.map .inr) (hs.map x) (.inr h)=if h∈hs then some (x h) else none
 | []=>rfl
 | g::hs=>by
  rw[List.map_cons,List.map_cons];unfold dI;by_cases q:g=h
  ·rw[if_pos (by rw[q]),if_pos (by rw[q];exact List.mem_cons_self),q]
  ·rw[if_neg (fun z=>q (by injection z)),Ih (hs:=hs)]
   by_cases p:h∈hs
   ·rw[if_pos p,if_pos (List.mem_cons_of_mem _ p)]
   ·rw[if_neg p,if_neg fun z=>by
     rcases zV.mp z with z | z
     ·exact q z.symm
     ·exact p z]
theorem Cr{hs:List Str}{x:Str ->Rat}{h:Str}(hh:h∈hs){P:D ->Prop}(hp:P (qD (x h))):gq (cj hs x) (.str h) P:=
 ⟨_,_,.inr h,_,rfl,rfl,by rw[Ih (x:=fun h=>qD (x h)),if_pos hh],hp⟩
theorem zxb(hs:List Str):(hs.map (Sum.inr:Str ->Key)).map bO=hs.map .str:=by rw[List.map_map];rfl
def Uu(x:Str ->Rat)(B:Int)(h:Str):Int:=(x h).num*B.fdiv ((x h).den:Int)
theorem zuv{x:Str ->Rat}{B:Int}{h:Str}(d:((x h).den:Int)∣B):(Uu x B h:Rat)=x h* (B:Rat):=by
 have e:=wG d;obtain⟨n1,n2⟩:=zso (x h);have e' :(B:Rat)=((x h).den:Int)* (B.fdiv ((x h).den:Int):Int):=by exact_mod_cast e.symm
 unfold Uu;rw[Rat.intCast_mul,n1,e']
 grind
theorem K4{B d:Int}(h:d∣B)(h0:d≠0):(B.fdiv d).natAbs<=B.natAbs:=by
 have e:=congrArg Int.natAbs (wG h);rw[Int.natAbs_mul] at e;rw[<- e];exact Nat.le_mul_of_pos_left _ (by omega)
theorem zu5{ws:List Str}{f g:Str ->D}{w:Str}(e:∀v∈ws,v≠w ->f v=g v):bQ (ws.map .inr) (ws.map f) (.inr w) (g w)=(addH ws w).map g:=by
 unfold bQ addH;rw[wQ];by_cases q:w∈ws
 ·rw[decide_eq_true q,if_pos rfl,if_pos q];clear q;induction ws with
  | nil=>rfl
  | cons v ws ih=>
   rw[List.map_cons,List.map_cons,List.map_cons,List.zipWith_cons_cons,ih fun u hu=>e u (List.mem_cons_of_mem _ hu)]
   congr 1
   by_cases p:v=w
   ·rw[if_pos (by rw[p]),p]
   ·rw[if_neg fun z=>p (by injection z)]
    exact e v zY p
 ·rw[decide_eq_false q,if_neg Bool.false_ne_true,if_neg q,List.map_append]
  congr 1
  exact List.map_congr_left fun v hv=>e v hv fun z=>q (z ▸ hv)
def oZ(ws:List Str)(f:Str ->Int):T:= .dic (ws.map .inr) ((ws.map fun w=> .int (f w)).map .leaf)
theorem K5(ws:List Str)(f:Str ->Int):toD (oZ ws f)= .dic (ws.map .inr) (ws.map fun w=> .int (f w)):=by
 unfold oZ toD;rw[Cm]
theorem ztu{ws:List Str}{f g:Str ->Int}{w:Str}(e:∀v∈ws,v≠w ->f v=g v):T.dic (dH (ws.map .inr) (.inr w)) ((bQ (ws.map .inr) (ws.map fun w=> .int (f w)) (.inr w) (.int (g w))).map .leaf)=oZ (addH ws w) g:=by
 rw[Uc,zu5 (f:=fun w=> .int (f w)) (g:=fun w=> .int (g w)) fun v hv n=>by rw[e v hv n]]
 rfl
def iW{α:Type}(l:List α)(f:α ->Int):Int:=(l.map f).sum
theorem Uv{α:Type}(l:List α)(f:α ->Int):(iW l f:Rat)=ao l fun a=>(f a:Rat):=KZ f l
structure Met (rows:List Rw) (k:Rw ->Str) (ws:List Str):Prop where
 nd:ws.Nodup
 mem:∀w,w∈ws↔∃r∈rows,k r=w
 len:ws.length<=rows.length
theorem Met.nil(k:Rw ->Str):Met [] k []:=⟨List.nodup_nil,fun w=>⟨fun z=>by(cases z),fun⟨r,hr,_⟩=>by(cases hr)⟩,zO _⟩
theorem Met.add{rows:List Rw}{k:Rw ->Str}{ws:List Str}(M:Met rows k ws)(r:Rw):Met (rows++ [r]) k (addH ws (k r)):=by
 refine⟨zjl M.nd,fun w=> ?_,zP zpi (by rw[List.length_append,List.length_singleton];exact Nat.add_le_add_right M.len 1)⟩
 rw[zqp,M.mem];constructor
 ·rintro(⟨s,hs,e⟩ | rfl)
  ·exact⟨s,zQ _ hs,e⟩
  ·exact⟨r,by simp,rfl⟩
 ·rintro⟨s,hs,e⟩;rcases zU.mp hs with hs | hs
  ·exact .inl ⟨s,hs,e⟩
  ·rw[List.mem_singleton.mp hs] at e;exact .inr e.symm
theorem zze{ws:List Str}{f:Str ->Int}{w:Str}(z:w∉ws ->f w=0):(dI (ws.map .inr) (ws.map fun w=> .int (f w)) (.inr w)).getD (.int 0)= .int (f w):=by
 rw[Ih (x:=fun w=> .int (f w))];by_cases q:w∈ws
 ·rw[if_pos q];rfl
 ·rw[if_neg q,z q];rfl
theorem zwi{l:List Rw}{x:Str ->Rat}{B:Int}(r:Rw):pI l x B r.1+r.2.2*B - tE x B r.2.1=pI (l++ [r]) x B r.1:=by
 unfold pI;rw[zx,if_pos rfl,List.map_append,List.sum_append];simp;omega
theorem zgj{K:W.Frag}{c:Cls}{ds Q Ex}(h:HF c ds Q Ex):zct K c (fin Q) (aH 11 ds) fun _=>Ex:=by
 obtain⟨rows,hs,x,B,rfl,nd,hl,sz,L,hh,rF,B0,dv,bB,h⟩:=h;have s1:=tG;have few:=L.few
 let le:Str ->Int:=tE x B
 let sm:List Rw ->Str ->Int:=fun l w=>pI l x B w
 let mn:List Rw ->Str ->Int:=fun l w=>((bh l w).length:Int)
 have wX:∀h∈hs,((x h).den:Int)≠0/\aU ((x h).den:Int)<=9000/\j6 (x h).num (B.fdiv ((x h).den:Int)):=fun g hg=>by
  have dp:=(x g).den_pos;have z:=sz g hg;refine⟨by omega,zP z.2 (by decide),.inr (.inr ?_)⟩
  have:=rC (K4 (dv g hg) (by omega))
  have:=z.1;omega
 intro a3;show zb4 K c (fin Q) [.pu (aK rows),.pu (cj hs x),.pu (.int B),.tr a3 (.dic [] []),.no,.no,.no,.no,.no,.no,.no] fun _=>Ex;intro a4;show zb3 K c (fin Q) [.pu (aK rows),.pu (cj hs x),.pu (.int B),.tr a3 (.dic [] []),.tr a4 (.dic [] []),.no,.no,.no,.no,.no,.no] fun _=>Ex;refine⟨fun i Γ=>∃(a3 a4:List Addr) (ws:List Str) (y5 y6 y7 y8:Slot),Met (rows.take i) (·.1) ws/\Γ= [.pu (aK rows),.pu (cj hs x),.pu (.int B),.tr a3 (oZ ws (sm (rows.take i))),.tr a4 (oZ ws (mn (rows.take i))),y5,y6,y7,y8,.no,.no],⟨a3,a4,[],.no,.no,.no,.no,Met.nil _,rfl⟩,?_,?_⟩
 ·rintro i d _ hi ⟨a3,a4,ws,y5,y6,y7,y8,M,rfl⟩;have hi' :i<rows.length:=by
   have:=(zW.mp hi).1
   rwa [List.length_map] at this
  rw[List.getElem?_map,List.getElem?_eq_getElem hi'] at hi;cases hi;have tk:=Cq hi';have hr:rows[i]∈rows:=yZ hi';generalize rows[i]=r at hr tk⊢;have lt:(rows.take i).length<=200:=by rw[List.length_take];omega
  generalize rows.take i=l at M lt tk⊢;have hm:=hh r hr;obtain⟨l1,l2,l3⟩:=wX _ hm;refine⟨rfl,rfl,?_⟩;show gq (cj hs x) (.str r.2.1) _;refine Cr hm ⟨_,at0,?_⟩;show gq (cj hs x) (.str r.2.1) _;refine Cr hm ⟨_,at1,⟨l1,l2⟩,l3,?_⟩;show zbk K c _ [.pu (aK rows),.pu (cj hs x),.pu (.int B),.tr a3 (oZ ws (sm l)),.tr a4 (oZ ws (mn l)),.pu (.str r.1),.pu (.str r.2.1),.pu (.int r.2.2),.pu (.int (le r.2.1)),.no,.no] _;refine⟨_,_,by rw[K5];rfl,.inr r.1,rfl,?_⟩
  rw[zze fun q=>by
   show pI l x B r.1=0;unfold pI;rw[Ud fun z=>q ((M.mem _).mpr z)];rfl]
  have mB:j6 r.2.2 B:= .inr (.inr (by have:=eU (L.mm r hr);omega))
  have wl:ws.length<=200:=zP M.len lt;refine⟨mB,trivial,⟨a3,_,rfl⟩,.inr r.1,a3,ws.map .inr,ws.map fun w=> .int (sm l w),rfl,rfl,by rw[List.length_map];omega,?_⟩
  have es:sm l r.1+r.2.2*B - le r.2.1=sm (l++ [r]) r.1:=zwi r;have esv:∀v∈ws,v≠r.1 ->sm l v=sm (l++ [r]) v:=fun v _ n=>by
   show pI l x B v=pI (l++ [r]) x B v;unfold pI;rw[zx,if_neg (fun z=>n z.symm),List.append_nil]
  have emv:∀v∈ws,v≠r.1 ->mn l v=mn (l++ [r]) v:=fun v _ n=>by
   show((bh l v).length:Int)=((bh (l++ [r]) v).length:Int);rw[zx,if_neg (fun z=>n z.symm),List.append_nil]
  show zbo K c _ [.pu (aK rows),.pu (cj hs x),.pu (.int B),.tr a3 (T.dic (dH (ws.map .inr) (.inr r.1)) ((bQ (ws.map .inr) (ws.map fun w=> .int (sm l w)) (.inr r.1) (.int (sm l r.1+r.2.2*B - le r.2.1))).map .leaf)),.tr a4 (oZ ws (mn l)),.pu (.str r.1),.pu (.str r.2.1),.pu (.int r.2.2),.pu (.int (le r.2.1)),.no,.no] _;rw[es,ztu esv];refine⟨_,_,by rw[K5];rfl,.inr r.1,rfl,?_⟩
  rw[zze fun q=>by
   show((bh l r.1).length:Int)=0;rw[Ud fun z=>q ((M.mem _).mpr z)];rfl]
  refine⟨trivial,⟨a4,_,rfl⟩,.inr r.1,a4,ws.map .inr,ws.map fun w=> .int (mn l w),rfl,rfl,by rw[List.length_map];omega,?_⟩
  have em:mn l r.1+1=mn (l++ [r]) r.1:=by
   show _=((bh (l++ [r]) r.1).length:Int);rw[zx,if_pos rfl,List.length_append]
   rfl
  refine⟨a3,a4,addH ws r.1,.pu (.str r.1),.pu (.str r.2.1),.pu (.int r.2.2),.pu (.int (le r.2.1)),by rw[tk];exact M.add r,?_⟩
  rw[tk,<- ztu (w:=r.1) emv,<- em]
  rfl
 ·rintro _ ⟨a3,a4,ws,y5,y6,y7,y8,M,rfl⟩;rw[List.length_map,List.take_length] at M⊢;refine⟨Nat.zero_le _,?_⟩;show zb6 K c (fin Q) [.pu (aK rows),.pu (cj hs x),.pu (.int B),.tr a3 (oZ ws (sm rows)),.tr a4 (oZ ws (mn rows)),y5,y6,y7,y8,.ow [],.no] fun _=>Ex;refine⟨fun i Γ=>∃(a3 a4:List Addr) (y5 y6 y7 y8 y10:Slot),Γ= [.pu (aK rows),.pu (cj hs x),.pu (.int B),.tr a3 (oZ ws (sm rows)),.tr a4 (oZ ws (mn rows)),y5,y6,y7,y8,.ow ((rows.take i).map fun r=> .int (cO rows x B r)),y10],⟨a3,a4,y5,y6,y7,y8,.no,rfl⟩,?_,?_⟩
  ·rintro i d _ hi ⟨a3,a4,y5,y6,y7,y8,y10,rfl⟩;have hi' :i<rows.length:=by
    have:=(zW.mp hi).1
    rwa [List.length_map] at this
   rw[List.getElem?_map,List.getElem?_eq_getElem hi'] at hi;cases hi;have tk:=Cq hi';have hr:rows[i]∈rows:=yZ hi';generalize rows[i]=r at hr tk⊢;have lt:(rows.take i).length<=200:=by rw[List.length_take];omega
   generalize rows.take i=l at lt tk⊢;have hm:=hh r hr;have mB:j6 r.2.2 B:= .inr (.inr (by have:=eU (L.mm r hr);omega))
   have hw:r.1∈ws:=(M.mem _).mpr ⟨r,hr,rfl⟩;have pos:0< (bh rows r.1).length:=List.length_pos_iff.mpr fun z=>by
    have:=aJ.mpr ⟨hr,(rfl:r.1=r.1)⟩;rw[z] at this;cases this
   have m0:mn rows r.1≠0/\ (mn rows r.1).natAbs<2^10:=by
    have h2:=L.wk r.1;show((bh rows r.1).length:Int)≠0/\ ((bh rows r.1).length:Int).natAbs<2^10;omega
   have Ii:mn rows r.1∣12:=by
    show((bh rows r.1).length:Int)∣12;exact Int.natCast_dvd_natCast.mpr (rF r hr)
   obtain⟨l1,l2,l3⟩:=wX _ hm;refine⟨rfl,rfl,?_⟩;show gq (cj hs x) (.str r.2.1) _;refine Cr hm ⟨_,at0,?_⟩;show gq (cj hs x) (.str r.2.1) _;refine Cr hm ⟨_,at1,⟨l1,l2⟩,l3,?_⟩;show zbm K c _ [.pu (aK rows),.pu (cj hs x),.pu (.int B),.tr a3 (oZ ws (sm rows)),.tr a4 (oZ ws (mn rows)),.pu (.str r.1),.pu (.str r.2.1),.pu (.int r.2.2),.pu (.int (le r.2.1)),.ow (l.map fun r=> .int (cO rows x B r)),y10] _;refine⟨_,_,.inr r.1,.int (mn rows r.1),by rw[K5];rfl,rfl,by rw[Ih (x:=fun w=> .int (mn rows w)),if_pos hw],⟨m0.1,zP (eU m0.2) (by decide)⟩,?_⟩
   refine⟨_,_,.inr r.1,.int (sm rows r.1),by rw[K5];rfl,rfl,by rw[Ih (x:=fun w=> .int (sm rows w)),if_pos hw],?_⟩
   have Uw:aU ((12:Int).fdiv (mn rows r.1))<=64:=by
    have h1:=K4 Ii m0.1;exact zP (eU (k:=4) (zM h1 (by decide))) (by decide)
   refine⟨.inl Uw,trivial,?_⟩;show T4 K c _ [.pu (aK rows),.pu (cj hs x),.pu (.int B),.tr a3 (oZ ws (sm rows)),.tr a4 (oZ ws (mn rows)),.pu (.str r.1),.pu (.str r.2.1),.pu (.int r.2.2),.pu (.int (le r.2.1)),.ow (l.map fun r=> .int (cO rows x B r)),.pu (.int ((12:Int).fdiv (mn rows r.1)*sm rows r.1))] _;unfold T4
   and_intros
   refine⟨⟨_,rfl⟩,mB,.inl (eU (by decide)),by rw[List.length_map];omega,a3,a4,.pu (.str r.1),.pu (.str r.2.1),.pu (.int r.2.2),.pu (.int (le r.2.1)),.pu (.int ((12:Int).fdiv (mn rows r.1)*sm rows r.1)),?_⟩
   rw[tk,List.map_append]
   rfl
  ·rintro _ ⟨a3,a4,y5,y6,y7,y8,y10,rfl⟩;rw[List.length_map,List.take_length];exact h
theorem zn7{a j:Int}(hj:0<j):(a.fdiv j).natAbs<=a.natAbs:=by
 rw[Int.fdiv_eq_ediv_of_nonneg _ (by omega)]
 exact Int.natAbs_ediv_le_natAbs a j
theorem znf{K:W.Frag}{c:Cls}{ds Q Ex}(h:HJ c ds Q Ex):T6 K c (fin Q) (aH 3 ds) fun _=>Ex:=by
 obtain⟨n,m,rfl,hm,h⟩:=h;have s1:=tG;have main:∀t:Int,t.natAbs<2^100 ->T5 K c (fin Q) [.pu (.int n),.pu (.int m),.pu (.int t)] fun _=>Ex:=by
  intro t ht;unfold T5
  and_intros
  have l:=wO (i:=n.fdiv 3) (m:=3) (by decide)
  have j0:0<1+ (n.fdiv 3).fmod 3:=by omega
  refine⟨.inr (.inl (zP (eU (k:=3) (by decide)) (by decide))),⟨by decide,mF (k:=2) (by decide)⟩,by decide,⟨by omega,mF (k:=3) (by omega)⟩,?_⟩
  refine h _ ?_;have h1:=zn7 (a:=t*6) j0;refine zP (eU (k:=104) ?_) (by decide)
  rw[Int.natAbs_mul] at h1;have:(6:Int).natAbs=6:=rfl;rw[this] at h1;refine zM h1 ?_;have e:(2:Nat)^104=2^100*16:=by decide
  rw[e];omega
 unfold T6 aH
 and_intros
 have l19:=wO (i:=n.fdiv 9) (m:=19) (by decide)
 have Ux:=wO (i:=n.fdiv 9) (m:=10^Int.toNat 12) (by decide)
 refine⟨⟨by decide,mF (k:=4) (by decide)⟩,by decide,⟨by decide,mF (k:=4) (by decide)⟩,show uP 10 12 from ⟨by decide,by decide,by decide⟩,by decide,by show(3:Nat)<=sizeLine;omega,by decide,?_⟩
 have Uw:((n.fdiv 9).fmod (10^Int.toNat 12)).natAbs<10^12:=by
  have e:(10:Int)^Int.toNat 12=1000000000000:=by decide
  rw[e] at Ux⊢;omega
 obtain⟨t,et,ht⟩:=zu (i:=n) (n:=3) (by decide)
 rw[show(3:Int)=((3:Nat):Int) from rfl,et]
 match t,ht with
 | 0,_=>exact⟨_,rfl,main _ (by omega)⟩
 | 1,_=>exact⟨_,rfl,main _ hm⟩
 | 2,_=>exact⟨_,rfl,main _ (Nat.lt_trans (m:=10^12) Uw (by decide))⟩
def mG(t n:Str):List Key:= [.inr t,.inr n]
def lU(n:Str):List Key:=mG (Str.ofString "work") n
def lu(n:Str):List Key:=mG (Str.ofString "hand") n
theorem z5w:(Str.ofString "work")≠ (Str.ofString "hand"):=by decide+kernel
theorem z4e{a b:Str}(h:lU a=lU b):a=b:=by
 unfold lU mG at h;injection h with _ h;injection h with h _;injection h
theorem z30{a b:Str}(h:lu a=lu b):a=b:=by
 unfold lu mG at h;injection h with _ h;injection h with h _;injection h
theorem z20{a b:Str}(h:lU a=lu b):False:=by
 unfold lU lu mG at h;injection h with h _;injection h with h;exact z5w h
theorem Ij{α:Type}{k k' :List Key}{x:α}:∀{ks:List (List Key)} {xs:List α},ks.length=xs.length ->k' ≠k ->cW (ks++ [k]) (xs++ [x]) k' =cW ks xs k'
 | [],[],_,n=>by
  show cW [k] [x] k' =none;unfold cW;rw[if_neg fun z=>n z.symm]
  rfl
 | a::ks,b::xs,h,n=>by
  rw[List.cons_append,List.cons_append];unfold cW;rw[Ij (by simpa using h) n]
theorem Uy{α:Type}{k:List Key}{x:α}:∀{ks:List (List Key)} {xs:List α},ks.length=xs.length ->k∉ks ->cW (ks++ [k]) (xs++ [x]) k=some x
 | [],[],_,_=>by
  show cW [k] [x] k=some x;unfold cW;rw[if_pos rfl]
 | a::ks,b::xs,h,n=>by
  rw[List.cons_append,List.cons_append];unfold cW;rw[if_neg (fun z:a=k=>n (by rw[z];exact List.mem_cons_self)),Uy (by simpa using h) fun z=>n (List.mem_cons_of_mem _ z)]
structure Nums (rows:List Rw) (ks:List (List Key)) (xs:List D) (a b:Str ->Int):Prop where
 len:ks.length=xs.length
 wk:∀w,(lU w∈ks ->cW ks xs (lU w)=some (.int (a w)))
 hd:∀g,(lu g∈ks ->cW ks xs (lu g)=some (.int (b g)))
 ba:∀w,aU (a w)<=200
 bb:∀g,aU (b g)<=200
 rw_:∀r∈rows,lU r.1∈ks
 rh_:∀r∈rows,lu r.2.1∈ks
theorem zz6{n:Nat}(a b:Str):mz n (.str a) (.str b):=by cases n<;>simp [mz]
theorem zpd{K:W.Frag}{c:Cls}{Dn:jm}{Ex:G2 ->Value ->Prop}{ns:List Int}{rows:List Rw}{B m:Int}{kN:Nat}{t n w h:Str}{as:List Addr}{ks:List (List Key)}{xs:List D}{s5 y10 y11:Slot}(hl:ns.length<=63)(hk:kN<=800)(hz:ks.length<=800)(hm:m.natAbs<2^100)
  (yes:mG t n∈ks ->Dn.nx [.pu (.lst (ns.map D.int)),.pu (aK rows),.pu (.int B),.tr as (.dG ks (xs.map .leaf)),.pu (.int kN),s5,.pu (.str w),.pu (.str h),.pu (.int m),.tr [] (.kt (mG t n)),y10,y11])
  (no:mG t n∉ks ->∀(v:Int) (y:Slot),aU v<=200 ->Dn.nx [.pu (.lst (ns.map D.int)),.pu (aK rows),.pu (.int B),.tr as (.dG (ks++ [mG t n]) ((xs++ [D.int v]).map .leaf)),.pu (.int ((kN:Int)+1)),s5,.pu (.str w),.pu (.str h),.pu (.int m),.tr [] (.kt (mG t n)),y,y11]):
  zca K c Dn [.pu (.lst (ns.map D.int)),.pu (aK rows),.pu (.int B),.tr as (.dG ks (xs.map .leaf)),.pu (.int kN),s5,.pu (.str w),.pu (.str h),.pu (.int m),.tr [] (.kt (mG t n)),y10,y11] Ex:=by
 have s1:=tG;refine⟨mG t n,as,ks,xs.map .leaf,rfl,rfl,?_⟩;show if (!iJ ks (mG t n))=true then _ else _;by_cases q:mG t n∈ks
 ·rw[oA.mpr q,if_neg (by decide)]
  exact yes q
 ·have q' :iJ ks (mG t n)=false:=by
   cases e:iJ ks (mG t n) with
   | false=>rfl
   | true=>exact absurd (oA.mp e) q
  rw[q',if_pos (by decide)]
  refine⟨ns,30+kN,?_,hl,by omega,?_⟩
  ·rw[Int.natCast_add];rfl
  have ms:∀u:Bool,j6 m (if u then 1 else 0):=fun u=> .inr (.inl (by cases u<;>exact eU (by decide)))
  refine⟨_,uR (j:=0) rfl,trivial,zz6 _ _,ms _,?_⟩;refine⟨_,_,rfl,?_,fun v bv=> ?_⟩
  ·split
   ·rw[Int.mul_one];exact hm
   ·rw[Int.mul_zero];decide
  ·refine⟨mG t n,as,ks,xs,rfl,rfl,by omega,?_⟩
   have e1:putL ks (mG t n)=ks++ [mG t n]:=by unfold putL;rw[q',if_neg Bool.false_ne_true]
   have e2:gk ks xs (mG t n) (.int v)=xs++ [.int v]:=by unfold gk;rw[q',if_neg Bool.false_ne_true]
   rw[e1,e2];exact no q v _ bv
theorem zpe{B:Int}{a a' b b' :Str ->Int}{l:List Rw}(h1:∀r∈l,a r.1=a' r.1)(h2:∀r∈l,b r.2.1=b' r.2.1):(l.map fun r=>D.int (bZ B a b r))=l.map fun r=>D.int (bZ B a' b' r):=List.map_congr_left fun r hr=>by
 unfold bZ;rw[h1 r hr,h2 r hr]
theorem Nums.addW{l:List Rw}{ks:List (List Key)}{xs:List D}{a b:Str ->Int}{w:Str}{v:Int}(N:Nums l ks xs a b)(q:lU w∉ks)(bv:aU v<=200):Nums l (ks++ [lU w]) (xs++ [.int v]) (fun u=>if u=w then v else a u) b:=by
 refine⟨by rw[List.length_append,List.length_append,N.len];rfl,fun u hu=> ?_,fun g hg=> ?_,fun u=> ?_,N.bb,fun r hr=>zQ _ (N.rw_ r hr),fun r hr=>zQ _ (N.rh_ r hr)⟩
 ·by_cases e:u=w
  ·subst e;rw[Uy N.len q,if_pos rfl]
  ·have n:lU u≠lU w:=fun z=>e (z4e z);rw[Ij N.len n,if_neg e];rcases zU.mp hu with hu | hu
   ·exact N.wk u hu
   ·exact absurd (zT.mp hu) n
 ·have n:lu g≠lU w:=fun z=>z20 z.symm;rw[Ij N.len n];rcases zU.mp hg with hg | hg
  ·exact N.hd g hg
  ·exact absurd (zT.mp hg) n
 ·split
  ·exact bv
  ·exact N.ba u
theorem Nums.addH{l:List Rw}{ks:List (List Key)}{xs:List D}{a b:Str ->Int}{w:Str}{v:Int}(N:Nums l ks xs a b)(q:lu w∉ks)(bv:aU v<=200):Nums l (ks++ [lu w]) (xs++ [.int v]) a (fun u=>if u=w then v else b u):=by
 refine⟨by rw[List.length_append,List.length_append,N.len];rfl,fun g hg=> ?_,fun u hu=> ?_,N.ba,fun u=> ?_,fun r hr=>zQ _ (N.rw_ r hr),fun r hr=>zQ _ (N.rh_ r hr)⟩
 ·have n:lU g≠lu w:=fun z=>z20 z;rw[Ij N.len n];rcases zU.mp hg with hg | hg
  ·exact N.wk g hg
  ·exact absurd (zT.mp hg) n
 ·by_cases e:u=w
  ·subst e;rw[Uy N.len q,if_pos rfl]
  ·have n:lu u≠lu w:=fun z=>e (z30 z);rw[Ij N.len n,if_neg e];rcases zU.mp hu with hu | hu
   ·exact N.hd u hu
   ·exact absurd (zT.mp hu) n
 ·split
  ·exact bv
  ·exact N.bb u
theorem zw4(ks:List (List Key))(xs:List D):toD (.dG ks (xs.map .leaf))= .dG ks xs:=by unfold toD;rw[Cm]
theorem Nums.snoc{l:List Rw}{ks:List (List Key)}{xs:List D}{a b:Str ->Int}{r:Rw}(N:Nums l ks xs a b)(hw:lU r.1∈ks)(hh:lu r.2.1∈ks):Nums (l++ [r]) ks xs a b:=
 ⟨N.len,N.wk,N.hd,N.ba,N.bb,fun s hs=>by
  rcases zU.mp hs with hs | hs
  ·exact N.rw_ s hs
  ·rw[List.mem_singleton.mp hs];exact hw,fun s hs=>by
  rcases zU.mp hs with hs | hs
  ·exact N.rh_ s hs
  ·rw[List.mem_singleton.mp hs];exact hh⟩
theorem zgs{K:W.Frag}{c:Cls}{ds Q Ex}(h:HN c ds Q Ex):zc7 K c (fin Q) (aH 12 ds) fun _=>Ex:=by
 obtain⟨ns,rows,B,rfl,hl,L,bB,h⟩:=h;have s1:=tG;have few:=L.few
 let S:D:= .lst (ns.map D.int)
 intro a3;show zcg K c (fin Q) [.pu S,.pu (aK rows),.pu (.int B),.tr a3 (.dG [] []),.no,.no,.no,.no,.no,.no,.no,.no] fun _=>Ex;show zcf K c (fin Q) [.pu S,.pu (aK rows),.pu (.int B),.tr a3 (.dG [] []),.pu (.int 0),.no,.no,.no,.no,.no,.no,.no] fun _=>Ex;refine⟨Nat.zero_le _,?_⟩;show zch K c (fin Q) [.pu S,.pu (aK rows),.pu (.int B),.tr a3 (.dG [] []),.pu (.int 0),.ow [],.no,.no,.no,.no,.no,.no] fun _=>Ex;refine⟨fun i Γ=>∃(a3:List Addr) (ks:List (List Key)) (xs:List D) (a b:Str ->Int) (kN:Nat) (y6 y7 y8 y9 y10 y11:Slot),Nums (rows.take i) ks xs a b/\ks.length<=2*i/\kN<=2*i/\
  Γ= [.pu S,.pu (aK rows),.pu (.int B),.tr a3 (.dG ks (xs.map .leaf)),.pu (.int kN),.ow ((rows.take i).map fun r=>D.int (bZ B a b r)),y6,y7,y8,y9,y10,y11],
  ⟨a3,[],[],fun _=>0,fun _=>0,0,.no,.no,.no,.no,.no,.no,⟨rfl,fun _ z=>by(cases z),fun _ z=>by(cases z),fun _=>by decide,fun _=>by decide,fun _ z=>by(cases z),fun _ z=>by(cases z)⟩,zO _,zO _,rfl⟩,?_,?_⟩
 ·rintro i d _ hi ⟨a3,ks,xs,a,b,kN,y6,y7,y8,y9,y10,y11,N,kl,kn,rfl⟩;have hi' :i<rows.length:=by
   have:=(zW.mp hi).1
   rwa [List.length_map] at this
  rw[List.getElem?_map,List.getElem?_eq_getElem hi'] at hi;cases hi;have tk:=Cq hi';have hr:rows[i]∈rows:=yZ hi';generalize rows[i]=r at hr tk⊢;have lt:(rows.take i).length<=200:=by rw[List.length_take];omega
  generalize rows.take i=l at N lt tk⊢;have hm:=L.mm r hr;refine⟨rfl,rfl,?_⟩;show zcb K c _ [.pu S,.pu (aK rows),.pu (.int B),.tr a3 (.dG ks (xs.map .leaf)),.pu (.int kN),.ow (l.map fun r=>D.int (bZ B a b r)),.pu (.str r.1),.pu (.str r.2.1),.pu (.int r.2.2),y9,y10,y11] _
  let Gm:List (List Key) ->List D ->Int ->(Str ->Int) ->(Str ->Int) ->Slot ->Slot ->G2:=fun ks xs kN a b y9 y10=> [.pu S,.pu (aK rows),.pu (.int B),.tr a3 (.dG ks (xs.map .leaf)),.pu (.int kN),.ow (l.map fun r=>D.int (bZ B a b r)),.pu (.str r.1),.pu (.str r.2.1),.pu (.int r.2.2),y9,y10,y11]
  have Ik:∀(ks:List (List Key)) (xs:List D) (a b:Str ->Int) (kN:Nat) (y9 y10:Slot),Nums l ks xs a b ->lU r.1∈ks ->lu r.2.1∈ks ->ks.length<=2* (i+1) ->kN<=2* (i+1) ->∀(D0:jm) (E0:G2 ->Value ->Prop),(∀y9 y10 y11,D0.nx [.pu S,.pu (aK rows),.pu (.int B),.tr a3 (.dG ks (xs.map .leaf)),.pu (.int kN),.ow ((l++ [r]).map fun r=>D.int (bZ B a b r)),.pu (.str r.1),.pu (.str r.2.1),.pu (.int r.2.2),y9,y10,y11]) ->
    KC K c D0 (Gm ks xs kN a b y9 y10) E0:=by
   intro ks xs a b kN y9 y10 N hw hh kl kn D0 E0 nx;show KC K c D0 [.pu S,.pu (aK rows),.pu (.int B),.tr a3 (.dG ks (xs.map .leaf)),.pu (.int kN),.ow (l.map fun r=>D.int (bZ B a b r)),.pu (.str r.1),.pu (.str r.2.1),.pu (.int r.2.2),y9,y10,y11] E0;have e:=zw4 ks xs;unfold KC
   and_intros
   rw[e];refine⟨by show(2:Nat)<=sizeLine;omega,lU r.1,_,rfl,N.wk _ hw,by show(2:Nat)<=sizeLine;omega,?_⟩
   refine⟨lu r.2.1,_,rfl,N.hd _ hh,trivial,?_⟩;unfold zbt
   and_intros
   have b2:aU 2<=2:=eU (by decide)
   have b6:aU 6<=3:=eU (by decide)
   have bm:=eU hm;have q1:=qK 2 B;have q2:=qK 6 r.2.2;have q3:=Eo (a r.1) (b r.2.1);have q4:=Ep (6*r.2.2) (a r.1+b r.2.1);have q5:=N.ba r.1;have q6:=N.bb r.2.1;refine⟨⟨_,rfl⟩,.inl (zP b2 (by decide)),.inl (zP b6 (by decide)),.inr (.inr (by omega)),by rw[List.length_map];omega,?_⟩
   have:=nx y9 y10 (.pu (.int (a r.1+b r.2.1)));rw[List.map_append] at this;exact this
  refine⟨by show(2:Nat)<=sizeLine;omega,lU r.1,rfl,by show(2:Nat)<=sizeLine;omega,lu r.2.1,rfl,
   fun Γ=>∃(ks:List (List Key)) (xs:List D) (a b:Str ->Int) (kN:Nat) (y9 y10:Slot),Nums l ks xs a b/\lU r.1∈ks/\ks.length<=2*i+1/\kN<=2*i+1/\Γ=Gm ks xs kN a b y9 y10,?_,?_⟩
  ·refine zpd (t:=Str.ofString "work") hl (by omega) (by omega) hm (fun q=> ?_) fun q v y bv=> ?_
   ·exact⟨ks,xs,a,b,kN,_,_,N,q,by omega,by omega,rfl⟩
   ·refine⟨_,_,_,b,kN+1,.tr [] (.kt (lU r.1)),y,N.addW q bv,zR _ (zT.mpr rfl),by rw[List.length_append,List.length_singleton];omega,by omega,?_⟩
    show _=Gm _ _ _ _ _ _ _;have e:=zpe (B:=B) (b:=b) (b' :=b) (a:=a) (a' :=fun u=>if u=r.1 then v else a u) (l:=l) (fun s hs=>by
     have:s.1≠r.1:=fun z=>q (z ▸ N.rw_ s hs);rw[if_neg this]) fun _ _=>rfl
    rw[e]
    rfl
  ·rintro Γ3 ⟨ks,xs,a,b,kN,y9,y10,N,hw,kl,kn,rfl⟩;refine zpd (t:=Str.ofString "hand") hl (by omega) (by omega) hm (fun q=> ?_) fun q v y bv=> ?_
   ·exact Ik ks xs a b kN _ _ N hw q (by omega) (by omega) _ _ fun y9 y10 y11=>⟨a3,ks,xs,a,b,kN,_,_,_,y9,y10,y11,by rw[tk];exact N.snoc hw q,by omega,by omega,by rw[tk]⟩
   ·have e:=zpe (B:=B) (b:=b) (b' :=fun u=>if u=r.2.1 then v else b u) (a:=a) (a' :=a) (l:=l) (fun _ _=>rfl) fun s hs=>by
     have:s.2.1≠r.2.1:=fun z=>q (z ▸ N.rh_ s hs);rw[if_neg this]
    have N' :=N.addH q bv;have h1:lU r.1∈ks++ [lu r.2.1]:=zQ _ hw;have h2:lu r.2.1∈ks++ [lu r.2.1]:=zR _ (zT.mpr rfl);rw[e];refine Ik (ks++ [lu r.2.1]) (xs++ [D.int v]) a (fun u=>if u=r.2.1 then v else b u) (kN+1) (.tr [] (.kt (lu r.2.1))) y N' h1 h2 (by rw[List.length_append,List.length_singleton];omega) (by omega) _ _ fun y9 y10 y11=> ?_
    exact⟨a3,_,_,a,_,kN+1,_,_,_,y9,y10,y11,by rw[tk];exact N'.snoc h1 h2,by rw[List.length_append,List.length_singleton];omega,by omega,by rw[tk]⟩
 ·rintro _ ⟨a3,ks,xs,a,b,kN,y6,y7,y8,y9,y10,y11,N,kl,kn,rfl⟩;rw[List.length_map,List.take_length];exact h a b N.ba N.bb
theorem zyd{rows:List Rw}{x:Str ->Rat}{B:Int}{w:Str}(dv:∀s∈bh rows w,((x s.2.1).den:Int)∣B):(pI rows x B w:Rat)=(B:Rat)*ao (bh rows w) (fun s=>(s.2.2:Rat) - x s.2.1):=by
 show((iW (bh rows w) fun r=>r.2.2*B - Uu x B r.2.1:Int):Rat)=_;rw[Uv,<- qQ];refine eY fun s hs=> ?_;rw[Rat.intCast_sub,Rat.intCast_mul,zuv (dv s hs)]
 grind
theorem zml{rows:List Rw}{x:Str ->Rat}{B:Int}{r:Rw}(hr:r∈rows)(dv:∀s∈rows,((x s.2.1).den:Int)∣B)(rF:(bh rows r.1).length∣12):(cO rows x B r:Rat)=12* (B:Rat)*bN rows x r:=by
 have pos:0< (bh rows r.1).length:=List.length_pos_iff.mpr fun z=>by
  have:=aJ.mpr ⟨hr,(rfl:r.1=r.1)⟩;rw[z] at this;cases this
 have n0:((bh rows r.1).length:Rat)≠0:=fun z=>by
  have:(bh rows r.1).length=0:=by exact_mod_cast z
  omega
 have eq:(((12:Int).fdiv ((bh rows r.1).length:Int):Int):Rat)=12/ ((bh rows r.1).length:Rat):=by
  have h1:=wG (Int.natCast_dvd_natCast.mpr rF:((bh rows r.1).length:Int)∣ ((12:Nat):Int));have h2:((bh rows r.1).length:Rat)* (((12:Int).fdiv ((bh rows r.1).length:Int):Int):Rat)=12:=by exact_mod_cast h1
  rw[<- h2,Rat.div_def,Rat.mul_comm ((bh rows r.1).length:Rat),Rat.mul_assoc,Rat.mul_inv_cancel _ n0,Rat.mul_one]
 unfold cO bN;rw[Rat.intCast_sub,Rat.intCast_mul,Rat.intCast_mul,Rat.intCast_sub,Rat.intCast_mul,show(tE x B r.2.1:Rat)=_ from zuv (dv r hr),zyd fun s hs=>dv s (aJ.mp hs).1,eq,Rat.div_def,Rat.div_def];show(12:Rat)*_ - _=_
 grind
theorem Ab{rows:List Rw}{x:Str ->Rat}{B:Int}(B0:0<B)(dv:∀s∈rows,((x s.2.1).den:Int)∣B)(rF:∀r∈rows,(bh rows r.1).length∣12)(ev:∀r∈rows,oY rows x r.2.1)(a b:Str ->Int):
  iW rows (fun r=>cO rows x B r*cO rows x B r)<=iW rows (fun r=>bZ B a b r*bZ B a b r)/\
  (iW rows (fun r=>cO rows x B r*cO rows x B r)=iW rows (fun r=>bZ B a b r*bZ B a b r) ->∀r∈rows,cO rows x B r=bZ B a b r):=by
 let m:Str ->Rat:=fun w=>ao (bh rows w) (fun s=>(s.2.2:Rat) - x s.2.1)/ ((bh rows w).length:Rat)
 let g:Rw ->Rat:=fun r=>(r.2.2:Rat) - (a r.1:Rat)/6 - (b r.2.1:Rat)/6
 have key:=zsd ev (fun w=>m w - (a w:Rat)/6) (fun h=>x h - (b h:Rat)/6) (g:=g) fun r _=>by
  show(r.2.2:Rat) - (a r.1:Rat)/6 - (b r.2.1:Rat)/6=bN rows x r+ (m r.1 - (a r.1:Rat)/6+ (x r.2.1 - (b r.2.1:Rat)/6));unfold bN;show _=(r.2.2:Rat) - x r.2.1 - m r.1+_
  grind
 have eo:∀r,(bZ B a b r:Rat)=12* (B:Rat)*g r:=fun r=>by
  show((2*B* (6*r.2.2 - (a r.1+b r.2.1)):Int):Rat)=12* (B:Rat)* ((r.2.2:Rat) - (a r.1:Rat)/6 - (b r.2.1:Rat)/6);rw[Rat.intCast_mul,Rat.intCast_mul,Rat.intCast_sub,Rat.intCast_mul,Rat.intCast_add,Rat.div_def,Rat.div_def];have:(6:Rat)⁻¹*6=1:=by decide+kernel
  show(2:Rat)*B* ((6:Rat)*_ - _)=_
  grind
 have e1:((iW rows (fun r=>cO rows x B r*cO rows x B r):Int):Rat)=(12* (B:Rat))* (12* (B:Rat))*ao rows (fun r=>bN rows x r*bN rows x r):=by
  rw[Uv,<- qQ];refine eY fun r hr=> ?_;rw[Rat.intCast_mul,zml hr dv (rF r hr)]
  grind
 have e2:((iW rows (fun r=>bZ B a b r*bZ B a b r):Int):Rat)=(12* (B:Rat))* (12* (B:Rat))*ao rows (fun r=>g r*g r):=by
  rw[Uv,<- qQ];refine eY fun r hr=> ?_;rw[Rat.intCast_mul,eo]
  grind
 have b0:(0:Rat)<12* (B:Rat):=by
  have:(0:Rat)< (B:Rat):=by exact_mod_cast B0
  grind
 have bb:(0:Rat)< (12* (B:Rat))* (12* (B:Rat)):=Rat.mul_pos b0 b0;constructor
 ·have:=Rat.mul_le_mul_of_nonneg_left key.1 (Rat.le_of_lt bb);rw[<- e1,<- e2] at this
  exact_mod_cast this
 ·intro z r hr;have z' :((iW rows (fun r=>cO rows x B r*cO rows x B r):Int):Rat)=((iW rows (fun r=>bZ B a b r*bZ B a b r):Int):Rat):=by rw[z]
  rw[e1,e2] at z';have n0:(12* (B:Rat))* (12* (B:Rat))≠0:=fun q=>by rw[q] at bb;exact absurd bb (by decide)
  have z2:ao rows (fun r=>bN rows x r*bN rows x r)=ao rows (fun r=>g r*g r):=by
   have:=congrArg (fun t=>((12* (B:Rat))* (12* (B:Rat)))⁻¹*t) z';simp only [<- Rat.mul_assoc] at this;rw[Rat.mul_assoc,Rat.mul_assoc] at this
   grind
  have:=key.2 z2 r hr;have h3:(cO rows x B r:Rat)=(bZ B a b r:Rat):=by rw[zml hr dv (rF r hr),eo,this]
  exact_mod_cast h3
theorem zya{α:Type}{n:Nat}(f g:α ->Int)(l:List α):mz (n+1) (.lst (l.map fun a=> .int (f a))) (.lst (l.map fun a=> .int (g a))):=by
 simp only [mz];intro i x y h1 h2;rw[List.getElem?_map] at h1 h2;cases e:l[i]? with
 | none=>rw[e] at h1;cases h1
 | some a=>rw[e] at h1 h2;cases h1;cases h2;exact rE _ _
theorem zse{α:Type}{f:α ->Int}{M:Nat}:∀{l:List α},(∀a∈l,aU (f a)<=M) ->aU ((l.map f).sum)<=M+l.length
 | [],_=>by
  have:aU 0=0:=by decide
  show aU 0<=_;omega
 | a::l,h=>by
  rw[List.map_cons,List.sum_cons,List.length_cons];have h1:=h a zY;have h2:=zse (l:=l) fun b hb=>h b (zX _ hb);have:=Eo (f a) ((l.map f).sum);omega
theorem z1j{rows:List Rw}{hs:List Str}{x:Str ->Rat}{B:Int}(L:LB rows)(sz:∀h∈hs,Sz 8500 (x h))(hh:∀r∈rows,r.2.1∈hs)(dv:∀h∈hs,((x h).den:Int)∣B)(bB:aU B<=600000)(rF:∀r∈rows,(bh rows r.1).length∣12){r:Rw}(hr:r∈rows):aU (cO rows x B r)<=700000:=by
 have one:∀s∈rows,aU (s.2.2*B - tE x B s.2.1)<=609000:=fun s hs' =>by
  have hm:=hh s hs';have z:=sz _ hm;have dp:=(x s.2.1).den_pos;have q1:=qK s.2.2 B;have q2:=eU (L.mm s hs');have q3:=qK (x s.2.1).num (B.fdiv ((x s.2.1).den:Int));have q4:=rC (K4 (dv _ hm) (by omega))
  have q5:=Ep (s.2.2*B) (tE x B s.2.1);have q6:=z.1;unfold tE at q5⊢;omega
 have q1:=one r hr;have q2:aU (pI rows x B r.1)<=609000+12:=by
  have h1:=zse (f:=fun s:Rw=>s.2.2*B - tE x B s.2.1) (M:=609000) (l:=bh rows r.1) fun s hs' =>one s (aJ.mp hs').1;have h2:=L.wk r.1;unfold pI;exact zP h1 (by omega)
 have pos:0< (bh rows r.1).length:=List.length_pos_iff.mpr fun z=>by
  have:=aJ.mpr ⟨hr,(rfl:r.1=r.1)⟩;rw[z] at this;cases this
 have q3:aU ((12:Int).fdiv ((bh rows r.1).length:Int))<=4:=by
  have h1:=K4 (Int.natCast_dvd_natCast.mpr (rF r hr):((bh rows r.1).length:Int)∣ ((12:Nat):Int)) (by omega)
  exact eU (k:=4) (zM h1 (by decide))
 have q4:=qK 12 (r.2.2*B - tE x B r.2.1);have q5:aU 12<=4:=eU (by decide)
 have q6:=qK ((12:Int).fdiv ((bh rows r.1).length:Int)) (pI rows x B r.1);have q7:=Ep (12* (r.2.2*B - tE x B r.2.1)) ((12:Int).fdiv ((bh rows r.1).length:Int)*pI rows x B r.1);unfold cO;omega
theorem z1u{rows:List Rw}{B:Int}{a b:Str ->Int}(L:LB rows)(bB:aU B<=600000)(ba:∀w,aU (a w)<=200)(bb:∀h,aU (b h)<=200){r:Rw}(hr:r∈rows):aU (bZ B a b r)<=700000:=by
 have b2:aU 2<=2:=eU (by decide)
 have b6:aU 6<=3:=eU (by decide)
 have bm:=eU (L.mm r hr);have q1:=qK 2 B;have q2:=qK 6 r.2.2;have q3:=Eo (a r.1) (b r.2.1);have q4:=Ep (6*r.2.2) (a r.1+b r.2.1);have q5:=ba r.1;have q6:=bb r.2.1;have q7:=qK (2*B) (6*r.2.2 - (a r.1+b r.2.1));unfold bZ;omega
theorem z6e{K:W.Frag}{c:Cls}{ds Q Ex}(h:Ku c ds Q Ex):HS K c (fin Q) (aH 9 ds) fun _=>Ex:=by
 obtain⟨ns,rfl,hl,h⟩:=h;have s1:=tG
 let S:D:= .lst (ns.map .int)
 have main:∀(rows:List Rw) (U:List Str),rows.length<=40 ->U.length<=4 ->(∀r∈rows,r.2.1∈U) ->Uq rows ->(∀r∈rows,r.2.2.natAbs<2^40) ->
   zqt K c (fin Q) [.pu S,.pu (aK rows),.no,.no,.no,.no,.no,.no,.no] fun _=>Ex:=by
  intro rows U b1 b2 b3 uq mk;have wk:∀w,(bh rows w).length<=4:=fun w=>by
   have:=wH (Tr uq w) fun y hy=>by
    obtain⟨r,hr,_,e⟩:=fD.mp hy;rw[<- e];exact b3 r hr
   rw[BL] at this;omega
  have L:LB rows:=⟨by omega,fun r hr=>zN (mk r hr) (Nat.pow_le_pow_right (by decide) (by decide)),fun w=>by have:=wk w;omega⟩
  have rF:∀r∈rows,(bh rows r.1).length∣12:=fun r hr=>by
   have h1:0< (bh rows r.1).length:=List.length_pos_iff.mpr fun z=>by
    have:=aJ.mpr ⟨hr,(rfl:r.1=r.1)⟩;rw[z] at this;cases this
   have h2:=wk r.1;have key:∀n:Nat,0<n ->n<=4 ->n∣12:=fun n h1 h2=>by
    match n,h1,h2 with
    | 1,_,_=>decide
    | 2,_,_=>decide
    | 3,_,_=>decide
    | 4,_,_=>decide
   exact key _ h1 h2
  refine⟨rows,U,rfl,uq,L,by omega,b3,fun ms x G=> ?_⟩
  obtain⟨Ss,F,p⟩:=G.g.pi;have nd:ms.flatten.Nodup:=Kh p.dj fun f hf=>Ck (G.g.sr f hf);have mem:∀g,g∈ms.flatten↔∃r∈rows,r.2.1=g:=fun g=>by
   constructor
   ·intro hg;obtain⟨f,hf,hg⟩:=List.mem_flatten.mp hg;exact G.g.hand hf hg
   ·rintro⟨r,hr,rfl⟩;obtain⟨T,hT,e⟩:=F.to r hr;obtain⟨f,hf,hx⟩:=(p.co r.2.1).mpr ⟨T,hT,(e _).mpr (cP.mpr ⟨r,hr,rfl,rfl⟩)⟩;exact List.mem_flatten.mpr ⟨f,hf,hx⟩
  have fl:ms.flatten.length<=4:=zP (wH nd fun z hz=>by
   obtain⟨r,hr,e⟩:=(mem z).mp hz;rw[<- e];exact b3 r hr) b2
  have sz:∀g∈ms.flatten,Sz 8500 (x g):=fun g hg=>by
   obtain⟨f,hf,hg⟩:=List.mem_flatten.mp hg;exact G.sz f hf g hg
  have ev:∀g∈ms.flatten,oY rows x g:=fun g hg=>by
   obtain⟨f,hf,hg⟩:=List.mem_flatten.mp hg;exact G.ev f hf g hg
  have hh:∀r∈rows,r.2.1∈ms.flatten:=fun r hr=>(mem _).mpr ⟨r,hr,rfl⟩;have et:eO ((ms.flatten.map fun h=>qD (x h)).map .leaf)=ms.flatten.map fun h=>qD (x h):=Cm _;generalize ms.flatten=hs at nd mem fl sz ev hh et⊢;show zqm K c (fin Q) [.pu S,.pu (aK rows),.pu (.nO (hs.map .inr) (eO ((hs.map fun h=>qD (x h)).map .leaf))),.no,.no,.no,.no,.no,.no] fun _=>Ex;rw[et];show zpc K c (fin Q) [.pu S,.pu (aK rows),.pu (cj hs x),.pu (.int 1),.no,.no,.no,.no,.no] fun _=>Ex;show lZ ((hs.map (Sum.inr:Str ->Key)).map bO) (hName 4) (zmv K c) _ _ _;rw[zxb];refine⟨fun i Γ=>∃(μ:Int) (y:Slot),Γ= [.pu S,.pu (aK rows),.pu (cj hs x),.pu (.int μ),y,.no,.no,.no,.no]/\0<μ/\aU μ<=8500*i+1/\∀h∈hs.take i,((x h).den:Int)∣μ,⟨1,_,rfl,by decide,by decide,fun _ z=>by(cases z)⟩,?_,?_⟩
  ·rintro i d _ hi ⟨μ,y,rfl,hμ,bμ,hd⟩;have hi' :i<hs.length:=by
    have:=(zW.mp hi).1
    rwa [List.length_map] at this
   rw[List.getElem?_map,List.getElem?_eq_getElem hi'] at hi;cases hi;have hm:hs[i]∈hs:=yZ hi';have dp:(0:Int)< (x hs[i]).den:=by have:=(x hs[i]).den_pos;omega
   obtain⟨g0,p1,p2,p3,p4,p5⟩:=zpw hμ dp;have zi:=(sz _ hm).2;have b4:=zP (rC p4) zi;have b5:=zP (rC p5) zi;have bm:=qK μ ((x hs[i]).den.cast (R:=Int) |>.fdiv (Int.gcd μ (x hs[i]).den:Int))
   show gq (cj hs x) (.str hs[i]) _;refine Cr hm ⟨_,at1,?_⟩;show gq (cj hs x) (.str hs[i]) _;refine Cr hm ⟨_,at1,μ,(x hs[i]).den,rfl,⟨g0,by omega⟩,.inr (.inr (by omega)),_,_,rfl,p1,by omega,fun h hh=> ?_⟩
   rw[Cq hi'] at hh;rcases zU.mp hh with hh | hh
   ·exact Int.dvd_trans (hd h hh) p2
   ·rw[List.mem_singleton.mp hh];exact p3
  ·rintro _ ⟨B,y,rfl,B0,bB,dv⟩;rw[List.length_map,List.take_length] at dv;rw[List.length_map] at bB;have K6 :aU B<=600000:=by omega
   show zq1 K c (fin Q) [.pu S,.pu (aK rows),.pu (cj hs x),.pu (.int B),y,.no,.no,.no,.no] fun _=>Ex;refine⟨rows,hs,x,B,rfl,nd,by omega,sz,L,hh,rF,B0,dv,K6,?_⟩
   refine⟨ns,rows,B,rfl,hl,L,K6,fun a b ba bb=> ?_⟩;show zpt K c (fin Q) [.pu S,.pu (aK rows),.pu (cj hs x),.pu (.int B),y,.pu (.lst (rows.map fun r=> .int (cO rows x B r))),.pu (.lst (rows.map fun r=> .int (bZ B a b r))),.no,.no] fun _=>Ex;have key:=Ab (x:=x) B0 (fun s hs' =>dv _ (hh s hs')) rF (fun r hr=>ev _ (hh r hr)) a b;refine uL (fun r=>D.int (cO rows x B r)) (fun r=>D.int (cO rows x B r*cO rows x B r)) (fun r hr P hp=>⟨.inr (.inr (by have:=z1j L sz hh dv K6 rF hr;omega)),hp⟩) ?_
   refine⟨_,KY _ rows,?_⟩;refine uL (fun r=>D.int (bZ B a b r)) (fun r=>D.int (bZ B a b r*bZ B a b r)) (fun r hr P hp=>⟨.inr (.inr (by have:=z1u L K6 ba bb hr;omega)),hp⟩) ?_
   refine⟨_,KY _ rows,?_⟩;show match D.bl (decide (iW rows (fun r=>cO rows x B r*cO rows x B r)<iW rows (fun r=>bZ B a b r*bZ B a b r))) with | .bl false=>_ | .bl true=>_ | _=>False
   by_cases q:iW rows (fun r=>cO rows x B r*cO rows x B r)<iW rows (fun r=>bZ B a b r*bZ B a b r)
   ·rw[decide_eq_true q];exact h
   ·rw[decide_eq_false q];have e:=Int.le_antisymm key.1 (Int.not_lt.mp q);refine⟨rE _ _,?_⟩;rw[Ci,decide_eq_true (show(rows.map fun r=>cO rows x B r*cO rows x B r).sum=(rows.map fun r=>bZ B a b r*bZ B a b r).sum from e)];refine⟨zya _ _ _,?_⟩;have el:(rows.map fun r=>D.int (cO rows x B r))=rows.map fun r=>D.int (bZ B a b r):=List.map_congr_left fun r hr=>by rw[key.2 e r hr]
    rw[el,Es];exact h
 show HS K c (fin Q) [.pu S,.no,.no,.no,.no,.no,.no,.no,.no] fun _=>Ex;unfold HS
 and_intros
 obtain⟨t4,e4,h4⟩:=zu (i:=iu ns 0) (n:=4) (by decide)
 obtain⟨t7,e7,h7⟩:=zu (i:=iu ns 1) (n:=7) (by decide)
 refine⟨ns,0,rfl,hl,by omega,by decide,ns,1,rfl,hl,by omega,by decide,ns,1+t4,t7,?_,hl,by omega,by omega,by omega,fun rows U c1 c2 c3 cu ck=> ?_⟩
 ·rw[show(iu ns 0).fmod 4=(t4:Int) from e4,show(iu ns 1).fmod 7=(t7:Int) from e7,Int.natCast_add];rfl
 ·exact main rows U c1 (by omega) c3 cu ck
end L3
local macro_rules | `(#[$x])=> `(by exact $x)
local macro_rules | `(#[$x,_])=> `(fun _ _ _ _ _ _=>by exact $x)
local macro_rules | `(tactic| symm_saturate)=> `(tactic| exact⟨rfl,by decide+kernel,by decide+kernel,by decide+kernel,rfl,by decide+kernel⟩)
local macro_rules | `(tactic| trivial)=> `(tactic| first | exact Or.inl rfl | exact Or.inr (Or.inl rfl) | exact Or.inr (Or.inr rfl) | exact Or.inr rfl)
local macro_rules | `(tactic| nofun)=> `(tactic| exact ⟨rfl,rfl,rfl,by decide+kernel,rfl,by decide+kernel,by decide+kernel⟩)
namespace Lw
open PySem PySem.Spec PyProof.Rows L2 L3
def top(i:Nat):Stmt:=PySem.Challenge.pw_hall_k35_whole_none_fits_better.main.body.getD i (.Pass ⟨0,0,0,0⟩)
theorem cM{k:Nat}{A:Around}{e:Env}(hr:eN k (A.deeper e)):(A.deeper e).units+21<cLine:=by have:=hr.units;omega
theorem len1{us:List Value}(h:us.length=1):∃a0,us= [a0]:=by
 match us,h with | [a0],_=>exact⟨a0,rfl⟩
theorem len2{us:List Value}(h:us.length=2):∃a0 a1,us= [a0,a1]:=by
 match us,h with | [a0,a1],_=>exact⟨a0,a1,rfl⟩
theorem pJ{us:List Value}(h:us.length=3):∃a0 a1 a2,us= [a0,a1,a2]:=by
 match us,h with | [a0,a1,a2],_=>exact⟨a0,a1,a2,rfl⟩
theorem Uz{us:List Value}(h:us.length=4):∃a0 a1 a2 a3,us= [a0,a1,a2,a3]:=by
 match us,h with | [a0,a1,a2,a3],_=>exact⟨a0,a1,a2,a3,rfl⟩
theorem UG{us:List Value}(h:us.length=5):∃a0 a1 a2 a3 a4,us= [a0,a1,a2,a3,a4]:=by
 match us,h with | [a0,a1,a2,a3,a4],_=>exact⟨a0,a1,a2,a3,a4,rfl⟩
section
variable(P:Program)(w:World)(K:W.Frag)(mg:Str ->Option Value)(base:Heap)(c:Cls)
abbrev Il:Prop:=cR P w K mg base "_law_cell" 1 ["_law_script","_law_k"] (qR c)
abbrev UJ:Prop:=cR P w K mg base "_law_rows" 2 ["_law_script","_law_hands","_law_works"] (HB c)
abbrev zj0:Prop:=m7 P w K mg base "by_work" 1 ["rows"] (Ca c)
abbrev zjx:Prop:=cR P w K mg base "divisor" 1 ["one","other"] (BP c)
abbrev K7:Prop:=cR P w K mg base "fraction" 2 ["top","bottom"] (wM c)
abbrev UL:Prop:=cR P w K mg base "sheets_with" 1 ["hand","sheets"] (wN c)
abbrev zs1:Prop:=cR P w K mg base "plus" 3 ["one","other"] (BR c)
abbrev zpn:Prop:=cR P w K mg base "total" 4 ["some"] (BX c)
abbrev UW:Prop:=m7 P w K mg base "leanings" 8 ["rows"] (Hw c)
abbrev U0:Prop:=cR P w K mg base "_law_scaled_rests" 1 ["_law_rows_here","_law_told","_law_bottom"] (HF c)
abbrev U3:Prop:=cR P w K mg base "_law_other_rests" 2 ["_law_script","_law_rows_here","_law_bottom"] (HN c)
abbrev U4:Prop:=cR P w K mg base "_law_divisor" 1 ["_law_one","_law_other"] (HD c)
end
section
variable{P:Program}{w:World}{K:W.Frag}{mg:Str ->Option Value}{base:Heap}{f:Addr}{fd:FuncData}{cdv:Value}{A:Around}{outer:List Env}{s:Shared}{H:Hp}{E:XK}{F0:Hp}(c:Cls)
abbrev U5:Stmt:=top 34
theorem iY:aB ["_law_cell_here","_law_many","_law_letters","_law_size","_law_at","_law_names_here","_law_k","_law_name","_law_j","_law_number_here"] ["_law_cell_here","_law_many"] (bU U5):=by nofun
theorem znc(F:fM K "_law_names" "_law_names" U5 f fd)(hm:mg "_law_names" =some (.ref f))(bR:mg "range" =none)(lA:mg "int" =none):cR P w K mg base "_law_names" 1 ["_law_cell_here","_law_many"] (Cg c):=
 ⟨f,fd,jh F iY (fun _ _ _ h=>zok h) fun cdv A outer s H E hr F0=>⟨Kw K c,by
  have nd:=iY.nd;have hu:=cM hr;exact(bF #[dB (i:=2) nd rfl (by trivial) #[uY]]
   #[bF #[dB (i:=3) nd rfl (by trivial) #[aR (fun _=>mq) aM (aR (fun _=>ji) (aR (fun _=>nH) (qv 0) aM) aM)]]
   #[bF #[qI #[p7 (fun _=>iG hu) (aR (fun _=>ji) (qv 0) aM) aM (aX _)]
   #[cA #[dB (i:=3) nd rfl (by trivial) #[aM]]]
   #[qH]]
   #[bF #[dB (i:=4) nd rfl (by trivial) #[aR (fun _=>ji) (aR (fun _=>nH) (qv 0) aM) (qv 3)]]
   #[bF #[Aq (i:=5) nd rfl (by trivial) #[rP aQ]]
   #[bF #[En rfl rfl bR #[aA (qv 1) aQ] #[d7 (i:=6) nd rfl (by trivial)]
   #[bF #[dB (i:=7) nd rfl (by trivial) #[uY]]
   #[bF #[En rfl rfl bR #[aA (aR (fun _=>mq) (qv 3) (aR (fun _=>fZ) (qv 6) (Qo (fun _=>QM) rfl lA boot_int (aA (zdt (fun _=>iG hu) (aR (fun _=>ji) (qv 0) aM) aM (aX _)) aQ)))) aQ] #[d7 (i:=8) nd rfl (by trivial)]
   #[bF #[dB (i:=9) nd rfl (by trivial) #[aR (fun _=>ji) (aR (fun _=>mq) (aR (fun _=>mq) (aR (fun _=>fZ) (aR (fun _=>nH) (qv 0) aM) aM) (aR (fun _=>fZ) (aR (fun _=>fZ) (qv 8) (qv 8)) aM)) (aR (fun _=>fZ) (qv 8) aM)) aM]]
   #[cA #[dB (i:=7) nd rfl (by trivial) #[aR (fun _=>mq) (qv 7) (fG (qv 2) (aR (fun _=>ji) (aR (fun _=>mq) (qv 9) (aR (fun _=>fZ) (qv 6) (Qo (fun _=>QM) rfl lA boot_int (aA (Oi (zdt (fun _=>iG hu) (qv 8) (qv 4) (aX _)) (Ej (zdt (fun _=>yr hu) (aR (fun _=>ji) (qv 0) aM) aM (aX _)))) aQ)))) aM) (fun _ _=>rfl))]]]]]
   #[cA #[Fl (i:=5) (fun _=>JM) PySem.F.slot_list_append PySem.F.type_list_append rfl (by trivial) #[aA (qv 7) aQ]]]]]]
   #[cA #[gY #[qv 5]]]]]]]]),fun ds Q Ex h=>zoj h⟩,hm,F.kp,F.binds fun _ _ _ _ _ _ us hl=>by obtain⟨_,_,rfl⟩:=len2 hl;exact rfl⟩
abbrev U6:Stmt:=top 32
theorem jG:aB ["_law_script","_law_k","_law_number_here"] ["_law_script","_law_k"] (bU U6):=by nofun
theorem znx(F:fM K "_law_cell" "_law_cell" U6 f fd)(hm:mg "_law_cell" =some (.ref f))(bT:mg "len" =none):cR P w K mg base "_law_cell" 1 ["_law_script","_law_k"] (qR c):=
 ⟨f,fd,jh F jG (fun _ _ _ h=>zrr h) fun cdv A outer s H E hr F0=>⟨zic K c,by
  have nd:=jG.nd;have hu:=cM hr;exact(bF #[qI #[p7 (fun _=>yp) (qv 1) (oV (fun _=>vY) rfl bT boot_len (aA (qv 0) aQ)) (aX _)]
   #[cA #[gY #[fG (qv 0) (qv 1) (fun _ _=>rfl)]]]
   #[qH]]
   #[bF #[dB (i:=2) nd rfl (by trivial) #[aR (fun _=>mq) (aR (fun _=>fZ) (qv 1) aM) aM]]
   #[bF #[qI #[p7 (fun _=>vd) (oV (fun _=>vY) rfl bT boot_len (aA (qv 0) aQ)) aM (aX _)]
   #[cA #[dB (i:=2) nd rfl (by trivial) #[aR (fun _=>ji) (aR (fun _=>mq) (aR (fun _=>fZ) (fG (qv 0) (aR (fun _=>ji) (aR (fun _=>fZ) (qv 1) aM) (oV (fun _=>vY) rfl bT boot_len (aA (qv 0) aQ))) (fun _ _=>rfl)) aM) (aR (fun _=>fZ) (qv 1) aM)) aM]]]
   #[qH]]
   #[cA #[gY #[aR (fun _=>ji) (aR (fun _=>fZ) (qv 2) (qv 2)) aM]]]]]),fun ds Q Ex h=>zq6 h⟩,hm,F.kp,F.binds fun _ _ _ _ _ _ us hl=>by obtain⟨_,_,rfl⟩:=len2 hl;exact rfl⟩
abbrev U7:Stmt:=top 35
theorem iw:aB ["_law_way","_law_w","_law_h","_law_hands","_law_cell_here"] ["_law_way","_law_w","_law_h","_law_hands","_law_cell_here"] (bU U7):=by nofun
theorem zkb(F:fM K "_law_marked" "_law_marked" U7 f fd)(hm:mg "_law_marked" =some (.ref f)):cR P w K mg base "_law_marked" 1 ["_law_way","_law_w","_law_h","_law_hands","_law_cell_here"] (Hy c):=
 ⟨f,fd,jh F iw (fun _ _ _ h=>zmq h) fun cdv A outer s H E hr F0=>⟨Ky K c,by
  have nd:=iw.nd;have hu:=cM hr;exact(bF #[qI #[p7 (fun _=>iG hu) (qv 0) aM (aX _)]
   #[cA #[gY #[zdt (fun _=>vd) (aR (fun _=>ji) (qv 4) aM) aM (aX _)]]]
   #[qH]]
   #[bF #[qI #[p7 (fun _=>iG hu) (qv 0) aM (aX _)]
   #[cA #[gY #[WY (zdt (fun _=>iG hu) (qv 2) (aR (fun _=>ji) (qv 1) (qv 3)) (aX _)) (Ej (zdt (fun _=>iG hu) (qv 2) (aR (fun _=>ji) (aR (fun _=>mq) (qv 1) aM) (qv 3)) (aX _)))]]]
   #[qH]]
   #[bF #[qI #[p7 (fun _=>iG hu) (qv 0) aM (aX _)]
   #[cA #[gY #[Oi (zdt (fun _=>iG hu) (aR (fun _=>ji) (qv 1) aM) (aR (fun _=>ji) (qv 2) aM) (aX _)) (Ej (zdt (fun _=>vd) (aR (fun _=>ji) (qv 4) aM) aM (aX _)))]]]
   #[qH]]
   #[cA #[gY #[z56]]]]]),fun ds Q Ex h=>zno h⟩,hm,F.kp,F.binds fun _ _ _ _ _ _ us hl=>by obtain⟨_,_,_,_,_,rfl⟩:=UG hl;exact rfl⟩
abbrev U8:Stmt:=top 36
theorem jH:aB ["_law_script","_law_hands","_law_works","_law_way","_law_most","_law_names_here","_law_people","_law_rows_here","_law_w","_law_h","_law_cell_here","_law_turn"] ["_law_script","_law_hands","_law_works"] (bU U8):=by nofun
theorem zor(F:fM K "_law_rows" "_law_rows" U8 f fd)(hm:mg "_law_rows" =some (.ref f))(eZ:cR P w K mg base "_law_names" 1 ["_law_cell_here","_law_many"] (Cg c))(aD:Il P w K mg base c)(fP:cR P w K mg base "_law_marked" 1 ["_law_way","_law_w","_law_h","_law_hands","_law_cell_here"] (Hy c))(bR:mg "range" =none)(bT:mg "len" =none):cR P w K mg base "_law_rows" 2 ["_law_script","_law_hands","_law_works"] (HB c):=
 ⟨f,fd,jh F jH (fun _ _ _ h=>zrx h) fun cdv A outer s H E hr F0=>⟨Kz K c,by
  have nd:=jH.nd;have hu:=cM hr;exact(bF #[dB (i:=3) nd rfl (by trivial) #[aR (fun _=>ji) (dR aD (hr.mono (by decide)) rfl (aA (qv 0) (aA aM aQ))) aM]]
   #[bF #[dB (i:=4) nd rfl (by trivial) #[fG (iC #[rP (aA aM (aA aM (aA aM (aA (aR (fun _=>Xa) aM aM) aQ))))]) (aR (fun _=>ji) (dR aD (hr.mono (by decide)) rfl (aA (qv 0) (aA aM aQ))) aM) (fun _ _=>rfl)]]
   #[bF #[dB (i:=5) nd rfl (by trivial) #[dR eZ (hr.mono (by decide)) rfl (aA (dR aD (hr.mono (by decide)) rfl (aA (qv 0) (aA aM aQ))) (aA (qv 2) aQ))]]
   #[bF #[dB (i:=6) nd rfl (by trivial) #[dR eZ (hr.mono (by decide)) rfl (aA (dR aD (hr.mono (by decide)) rfl (aA (qv 0) (aA aM aQ))) (aA (qv 1) aQ))]]
   #[bF #[Aq (i:=7) nd rfl (by trivial) #[rP aQ]]
   #[bF #[En rfl rfl bR #[aA (qv 2) aQ] #[d7 (i:=8) nd rfl (by trivial)]
   #[cA #[En rfl rfl bR #[aA (qv 1) aQ] #[d7 (i:=9) nd rfl (by trivial)]
   #[bF #[dB (i:=10) nd rfl (by trivial) #[dR aD (hr.mono (by decide)) rfl (aA (qv 0) (aA (aR (fun _=>mq) (aR (fun _=>mq) aM (aR (fun _=>fZ) (qv 8) (qv 1))) (qv 9)) aQ))]]
   #[cA #[qI #[Og (dR fP (hr.mono (by decide)) rfl (aA (qv 3) (aA (qv 8) (aA (qv 9) (aA (qv 1) (aA (qv 10) aQ))))))]
   #[cA #[Fl (i:=7) (fun _=>JM) PySem.F.slot_list_append PySem.F.type_list_append rfl (by trivial) #[aA (um (aA (fG (qv 5) (qv 8) (fun _ _=>rfl)) (aA (fG (qv 6) (qv 9) (fun _ _=>rfl)) (aA (aR (fun _=>ji) (aR (fun _=>nH) (qv 10) aM) (qv 4)) aQ)))) aQ]]]
   #[qH]]]]]]]
   #[bF #[dB (i:=11) nd rfl (by trivial) #[aR (fun _=>ji) (aR (fun _=>nH) (dR aD (hr.mono (by decide)) rfl (aA (qv 0) (aA aM aQ))) aM) (aR (fun _=>mq) (Bd (fun F0 H0=>by exact(oV (fun _=>vY) rfl bT boot_len (aA (qv 7) aQ)))) aM)]]
   #[cA #[gY #[iC #[Fp (iC #[JH (qv 7) (JG (qv 11)) JF]) (iC #[JH (qv 7) JF (JG (qv 11))])]]]]]]]]]]),fun ds Q Ex h=>zry h⟩,hm,F.kp,F.binds fun _ _ _ _ _ _ us hl=>by obtain⟨_,_,_,rfl⟩:=pJ hl;exact rfl⟩
abbrev K8:Stmt:=top 15
theorem qp:aB ["group","hands"] ["group","hands"] (bU K8):=by nofun
theorem z0a(F:fM K "meet" "meet" K8 f fd)(hm:mg "meet" =some (.ref f))(tL:mg "any" =none):cR P w K mg base "meet" 1 ["group","hands"] (Ce c):=
 ⟨f,fd,jh F qp (fun _ _ _ h=>z4s h) fun cdv A outer s H E hr F0=>⟨zv2 K c,by
  have nd:=qp.nd;have hu:=cM hr;exact(cA (by exact(gY (by exact(oV (fun _=>z58 rfl) rfl tL boot_any (aA (iC (by exact(rD (own:= ["hand"]) (N' := ["hand","group"]) (by show dM ["group","hands"] _ ["hand"] [0] (bU K8) ["hand","group"];symm_saturate) rfl #[nU (qL (qv 1))] #[d7 (i:=0) (show(["hand","group"]:List Str).Nodup by decide+kernel) rfl (by trivial),_] #[qb,_] #[zdt (fun _=>Ft) (qv 0) (qv 1) (by with_unfolding_all rfl),_]))) aQ)))))),fun ds Q Ex h=>z26 h⟩,hm,F.kp,F.binds fun _ _ _ _ _ _ us hl=>by obtain⟨_,_,rfl⟩:=len2 hl;exact rfl⟩
abbrev K9:Stmt:=top 14
theorem mH:aB ["found","hands","apart","together","group"] ["found","hands"] (bU K9):=by nofun
theorem zvh(F:fM K "joined" "joined" K9 f fd)(hm:mg "joined" =some (.ref f))(m9:cR P w K mg base "meet" 1 ["group","hands"] (Ce c))(dF:mg "list" =none)(fK:mg "sorted" =none)(tM:mg "set" =none):cR P w K mg base "joined" 2 ["found","hands"] (Ho c):=
 ⟨f,fd,jh F mH (fun _ _ _ h=>zwo h) fun cdv A outer s H E hr F0=>⟨zmy K c,by
  have nd:=mH.nd;have hu:=cM hr;exact(bF (by exact(Fo (by exact(Fg (i:=2) nd rfl rfl (own:= ["group"]) (N' := ["group","hands"]) (by show dM ["found","hands","apart","together","group"] _ ["group"] [1] (bU K9) ["group","hands"];symm_saturate) rfl #[nU (qL (qv 0))] #[d7 (i:=0) (show(["group","hands"]:List Str).Nodup by decide+kernel) rfl (by trivial),_] #[Ql (z4f (Og (dR m9 (hr.mono (by decide)) rfl (aA (qv 0) (aA (qv 1) aQ))))),_] #[qv 0,_]))))
   #[bF #[Aq (i:=3) nd rfl (by trivial) #[Qn (fun _=>XD) rfl dF boot_list (aA (qv 1) aQ)]]
   #[bF #[vV rfl #[qv 0] #[d7 (i:=4) nd rfl (by trivial)]
   #[cA #[qI #[Og (dR m9 (hr.mono (by decide)) rfl (aA (qv 4) (aA (qv 1) aQ)))]
   #[cA #[Fl (i:=3) (fun _=>zvj) PySem.F.slot_list_extend PySem.F.type_list_extend rfl (by trivial) #[aA (qv 4) aQ]]]
   #[qH]]]]
   #[cA #[gY #[iC #[Fp (qv 2) (iC #[rP (aA (iC #[zxt rfl rfl fK rfl tM (aA (qv 3) aQ)]) aQ)])]]]]]]),fun ds Q Ex h=>zx2 h⟩,hm,F.kp,F.binds fun _ _ _ _ _ _ us hl=>by obtain⟨_,_,rfl⟩:=len2 hl;exact rfl⟩
abbrev U9:Stmt:=top 11
theorem lB:aB ["rows","sheets","work","hand","mark"] ["rows"] (bU U9):=by nofun
theorem zrn(F:fM K "by_work" "by_work" U9 f fd)(hm:mg "by_work" =some (.ref f)):m7 P w K mg base "by_work" 1 ["rows"] (Ca c):=
 ⟨f,fd,yO F lB (fun _ _ _ h=>ztp h) fun cdv A outer s H E hr F0=>⟨zjy K c,by
  have nd:=lB.nd;have hu:=cM hr;exact(bF #[Gf (i:=1) nd rfl (by trivial) #[Ge]]
   #[bF #[vV rfl #[qv 0] #[u6 rfl (lN (d7 (i:=2) nd rfl (by trivial)) (lN (d7 (i:=3) nd rfl (by trivial)) (lN (d7 (i:=4) nd rfl (by trivial)) u5)))]
   #[bF #[qI #[z3m (i:=1) (hu1 hu) #[qv 2] rfl (by trivial)]
   #[cA #[z23 (i:=1) (j:=2) (hu1 hu) rfl (by trivial) rfl (by trivial) #[Ge]]]
   #[qH]]
   #[cA #[z3g (i:=1) (j:=2) (l:=3) (hu1 hu) rfl (by trivial) rfl (by trivial) rfl (by trivial) #[qv 4]]]]]
   #[cA #[Rv #[YS (i:=1) rfl (by trivial)]]]]),fun ds Q Ex h=>ztd h⟩,hm,F.kp,F.binds fun _ _ _ _ _ _ us hl=>by obtain⟨_,rfl⟩:=len1 hl;exact rfl⟩
abbrev Va:Stmt:=top 13
theorem mJ:aB ["rows","found","sheet"] ["rows"] (bU Va):=by nofun
theorem zv0(F:fM K "groups" "groups" Va f fd)(hm:mg "groups" =some (.ref f))(lC:cR P w K mg base "joined" 2 ["found","hands"] (Ho c))(dU:zj0 P w K mg base c)(fK:mg "sorted" =none)(dF:mg "list" =none):m7 P w K mg base "groups" 3 ["rows"] (Hq c):=
 ⟨f,fd,yO F mJ (fun _ _ _ h=>zwl h) fun cdv A outer s H E hr F0=>⟨zl0 K c,by
  have nd:=mJ.nd;have hu:=cM hr;exact(bF #[dB (i:=1) nd rfl (by trivial) #[iC #[rP aQ]]]
   #[bF #[Qk rfl #[zud #[YX dU (hr.mono (by decide)) rfl (aA (qv 0) aQ)]] #[d7 (i:=2) nd rfl (by trivial)]
   #[cA #[dB (i:=1) nd rfl (by trivial) #[dR lC (hr.mono (by decide)) rfl (aA (qv 1) (aA (iC #[Qn (fun _=>z1w rfl) rfl dF boot_list (aA (qv 2) aQ)]) aQ))]]]]
   #[cA #[Rv #[z5q #[zv7 (fun _=>z4h hu) rfl fK boot_sorted (aA (qv 1) aQ)]]]]]),fun ds Q Ex h=>zv8 h⟩,hm,F.kp,F.binds fun _ _ _ _ _ _ us hl=>by obtain⟨_,rfl⟩:=len1 hl;exact rfl⟩
abbrev Vb:Stmt:=top 5
theorem lD:aB ["one","other","rest"] ["one","other"] (bU Vb):=by nofun
theorem zq8(F:fM K "divisor" "divisor" Vb f fd)(hm:mg "divisor" =some (.ref f))(lE:mg "abs" =none):cR P w K mg base "divisor" 1 ["one","other"] (BP c):=
 ⟨f,fd,jh F lD (fun _ _ _ h=>zub h) fun cdv A outer s H E hr F0=>⟨zj3 K c,by
  have nd:=lD.nd;have hu:=cM hr;exact(bF #[W4 #[p7 (fun _=>yr hu) (qv 1) aM (aX _)]
   #[bF #[dB (i:=2) nd rfl (by trivial) #[aR (fun _=>ji) (qv 0) (qv 1)]]
   #[bF #[dB (i:=0) nd rfl (by trivial) #[qv 1]]
   #[cA #[dB (i:=1) nd rfl (by trivial) #[qv 2]]]]]]
   #[cA #[gY #[oV (fun _=>Pg) rfl lE boot_abs (aA (qv 0) aQ)]]]),fun ds Q Ex h=>zsl h⟩,hm,F.kp,F.binds fun _ _ _ _ _ _ us hl=>by obtain⟨_,_,rfl⟩:=len2 hl;exact rfl⟩
abbrev La:Stmt:=top 18
theorem iZ:aB ["row","multiple","part"] ["row"] (bU La):=by nofun
theorem zmo(F:fM K "whole_row" "whole_row" La f fd)(hm:mg "whole_row" =some (.ref f))(dW:zjx P w K mg base c):cR P w K mg base "whole_row" 2 ["row"] (Hf c):=
 ⟨f,fd,jh F iZ (fun _ _ _ h=>zoa h) fun cdv A outer s H E hr F0=>⟨zhl K c,by
  have nd:=iZ.nd;have hu:=cM hr;exact(bF #[dB (i:=1) nd rfl (by trivial) #[aM]]
   (by exact(bF #[vV rfl #[qv 0] #[d7 (i:=2) nd rfl (by trivial)]
   #[cA #[dB (i:=1) nd rfl (by trivial) #[aR (fun _=>fZ) (qv 1) (aR (fun _=>nH) (fG (qv 2) aM (fun _ _=>rfl)) (dR dW (hr.mono (by decide)) rfl (aA (qv 1) (aA (fG (qv 2) aM (fun _ _=>rfl)) aQ))))]]]]
   (by exact(cA (by exact(gY (by exact(iC (by exact(rD (own:= ["part"]) (N' := ["part","multiple"]) (by show dM ["row","multiple","part"] _ ["part"] [1] (bU La) ["part","multiple"];symm_saturate) rfl #[nU (qL (qv 0))] #[d7 (i:=0) (show(["part","multiple"]:List Str).Nodup by decide+kernel) rfl (by trivial),_] #[qb,_] #[aR (fun _=>fZ) (fG (qv 0) aM (fun _ _=>rfl)) (aR (fun _=>nH) (qv 1) (fG (qv 0) aM (fun _ _=>rfl))),_]))))))))))),fun ds Q Ex h=>zo4 h⟩,hm,F.kp,F.binds fun _ _ _ _ _ _ us hl=>by obtain⟨_,rfl⟩:=len1 hl;exact rfl⟩
abbrev Lb:Stmt:=top 22
theorem lF:aB ["row","lead","place","ahead"] ["row","lead","place","ahead"] (bU Lb):=by nofun
theorem zre(F:fM K "without" "without" Lb f fd)(hm:mg "without" =some (.ref f))(jc:mg "zip" =none):cR P w K mg base "without" 1 ["row","lead","place","ahead"] (Hg c):=
 ⟨f,fd,jh F lF (fun _ _ _ h=>ztz h) fun cdv A outer s H E hr F0=>⟨zjr K c,by
  have nd:=lF.nd;have hu:=cM hr;exact(cA (by exact(gY (by exact(iC (by exact(rD (own:= ["part","head"]) (N' := ["part","head","row","lead","place","ahead"]) (by show dM ["row","lead","place","ahead"] _ ["part","head"] [0,1,2,3] (bU Lb) ["part","head","row","lead","place","ahead"];symm_saturate) rfl #[nU (Q9 rfl rfl jc (aA (qv 0) (aA (qv 1) aQ)))] #[u6 rfl (lN (d7 (i:=0) (show(["part","head","row","lead","place","ahead"]:List Str).Nodup by decide+kernel) rfl (by trivial)) (lN (d7 (i:=1) (show(["part","head","row","lead","place","ahead"]:List Str).Nodup by decide+kernel) rfl (by trivial)) u5)),_] #[qb,_] #[aR (fun _=>nH) (aR (fun _=>yj) (aR (fun _=>fZ) (fG (qv 3) (qv 4) (fun _ _=>rfl)) (qv 0)) (aR (fun _=>fZ) (fG (qv 2) (qv 4) (fun _ _=>rfl)) (qv 1))) (qv 5),_]))))))),fun ds Q Ex h=>zti h⟩,hm,F.kp,F.binds fun _ _ _ _ _ _ us hl=>by obtain⟨_,_,_,_,rfl⟩:=Uz hl;exact rfl⟩
abbrev Ld:Stmt:=top 21
theorem lG:aB ["table","place","ahead","lead"] ["table","place","ahead"] (bU Ld):=by nofun
theorem zro(F:fM K "cleared" "cleared" Ld f fd)(hm:mg "cleared" =some (.ref f))(jz:cR P w K mg base "without" 1 ["row","lead","place","ahead"] (Hg c))(cI:mg "enumerate" =none):cR P w K mg base "cleared" 2 ["table","place","ahead"] (Hh c):=
 ⟨f,fd,jh F lG (fun _ _ _ h=>zu9 h) fun cdv A outer s H E hr F0=>⟨zjm K c,by
  have nd:=lG.nd;have hu:=cM hr;exact(bF #[dB (i:=3) nd rfl (by trivial) #[fG (qv 0) (qv 1) (fun _ _=>rfl)]]
   (by exact(cA (by exact(gY (by exact(iC (by exact(rD (own:= ["spot","row"]) (N' := ["spot","row","place","ahead","lead"]) (by show dM ["table","place","ahead","lead"] _ ["spot","row"] [1,2,3] (bU Ld) ["spot","row","place","ahead","lead"];symm_saturate) rfl #[nU (X3 rfl rfl cI (aA (qv 0) aQ))] #[u6 rfl (lN (d7 (i:=0) (show(["spot","row","place","ahead","lead"]:List Str).Nodup by decide+kernel) rfl (by trivial)) (lN (d7 (i:=1) (show(["spot","row","place","ahead","lead"]:List Str).Nodup by decide+kernel) rfl (by trivial)) u5)),_] #[qb,_] #[W0 (p7 (fun _=>iG hu) (qv 0) (qv 2) (aX _)) (qv 1) (dR jz (hr.mono (by decide)) rfl (aA (qv 1) (aA (qv 4) (aA (qv 2) (aA (qv 3) aQ))))),_]))))))))),fun ds Q Ex h=>zvx h⟩,hm,F.kp,F.binds fun _ _ _ _ _ _ us hl=>by obtain⟨_,_,_,rfl⟩:=pJ hl;exact rfl⟩
abbrev Vc:Stmt:=top 6
theorem jJ:aB ["top","bottom","common"] ["top","bottom"] (bU Vc):=by nofun
theorem zn9(F:fM K "fraction" "fraction" Vc f fd)(hm:mg "fraction" =some (.ref f))(dW:zjx P w K mg base c)(dN:mg "NoFraction" =some (.ref c.bK)/\nQ K c.bK):cR P w K mg base "fraction" 2 ["top","bottom"] (wM c):=
 ⟨f,fd,jh F jJ (fun _ _ _ h=>zrl h) fun cdv A outer s H E hr F0=>⟨zi4 K c,by
  have nd:=jJ.nd;have hu:=cM hr;exact(bF #[qI #[p7 (fun _=>iG hu) (qv 1) aM (aX _)]
   #[cA #[Xj rfl rfl dN.1 dN.2 (aA uY aQ)]]
   #[qH]]
   #[bF #[dB (i:=2) nd rfl (by trivial) #[dR dW (hr.mono (by decide)) rfl (aA (qv 0) (aA (qv 1) aQ))]]
   #[bF #[qI #[p7 (fun _=>yp) (qv 1) aM (aX _)]
   #[cA #[dB (i:=2) nd rfl (by trivial) #[Pb (qv 2)]]]
   #[qH]]
   #[cA #[gY #[um (aA (aR (fun _=>nH) (qv 0) (qv 2)) (aA (aR (fun _=>nH) (qv 1) (qv 2)) aQ))]]]]]),fun ds Q Ex h=>zrj h⟩,hm,F.kp,F.binds fun _ _ _ _ _ _ us hl=>by obtain⟨_,_,rfl⟩:=len2 hl;exact rfl⟩
abbrev Vd:Stmt:=top 20
theorem jd:aB ["table","place","spot","other"] ["table","place","spot"] (bU Vd):=by nofun
theorem znt(F:fM K "exchanged" "exchanged" Vd f fd)(hm:mg "exchanged" =some (.ref f))(dF:mg "list" =none):cR P w K mg base "exchanged" 1 ["table","place","spot"] (Hi c):=
 ⟨f,fd,jh F jd (fun _ _ _ h=>zn3 h) fun cdv A outer s H E hr F0=>⟨zhf K c,by
  have nd:=jd.nd;have hu:=cM hr;exact(bF #[Aq (i:=3) nd rfl (by trivial) #[Qn (fun _=>XD) rfl dF boot_list (aA (qv 0) aQ)]]
   #[bF #[Yi (i:=3) rfl (by trivial) #[qv 1] #[fG (qv 0) (qv 2) (fun _ _=>rfl)]]
   #[bF #[Yi (i:=3) rfl (by trivial) #[qv 2] #[fG (qv 0) (qv 1) (fun _ _=>rfl)]]
   #[cA #[gY #[qv 3]]]]]),fun ds Q Ex h=>zpb h⟩,hm,F.kp,F.binds fun _ _ _ _ _ _ us hl=>by obtain⟨_,_,_,rfl⟩:=pJ hl;exact rfl⟩
abbrev Ve:Stmt:=top 19
theorem tO:aB ["table","place","spot"] ["table","place"] (bU Ve):=by nofun
theorem z4r(F:fM K "led" "led" Ve f fd)(hm:mg "led" =some (.ref f))(gC:cR P w K mg base "exchanged" 1 ["table","place","spot"] (Hi c))(bR:mg "range" =none)(bT:mg "len" =none)(fQ:mg "NoAnswer" =some (.ref c.dh)/\nQ K c.dh):cR P w K mg base "led" 2 ["table","place"] (Hj c):=
 ⟨f,fd,jh F tO (fun _ _ _ h=>z5k h) fun cdv A outer s H E hr F0=>⟨zzt K c,by
  have nd:=tO.nd;have hu:=cM hr;exact(bF #[z2j rfl rfl bR #[aA (qv 1) (aA (oV (fun _=>vY) rfl bT boot_len (aA (qv 0) aQ)) aQ)] #[d7 (i:=2) nd rfl (by trivial)]
   #[cA #[qI #[p7 (fun _=>yr hu) (fG (fG (qv 0) (qv 2) (fun _ _=>rfl)) (qv 1) (fun _ _=>rfl)) aM (aX _)]
   #[cA #[gY #[dR gC (hr.mono (by decide)) rfl (aA (qv 0) (aA (qv 1) (aA (qv 2) aQ)))]]]
   #[qH]]]]
   #[cA #[Xj rfl rfl fQ.1 fQ.2 (aA uY aQ)]]),fun ds Q Ex h=>z5x h⟩,hm,F.kp,F.binds fun _ _ _ _ _ _ us hl=>by obtain⟨_,_,rfl⟩:=len2 hl;exact rfl⟩
abbrev Im:Stmt:=top 17
theorem mK:aB ["rows","rights","table","ahead","place"] ["rows","rights"] (bU Im):=by nofun
theorem zss(F:fM K "solved" "solved" Im f fd)(hm:mg "solved" =some (.ref f))(gD:cR P w K mg base "whole_row" 2 ["row"] (Hf c))(jA:cR P w K mg base "cleared" 2 ["table","place","ahead"] (Hh c))(aY:K7 P w K mg base c)(tQ:cR P w K mg base "led" 2 ["table","place"] (Hj c))(bR:mg "range" =none)(bT:mg "len" =none)(jc:mg "zip" =none)(cI:mg "enumerate" =none):cR P w K mg base "solved" 3 ["rows","rights"] (Hl c):=
 ⟨f,fd,jh F mK (fun _ _ _ h=>zwv h) fun cdv A outer s H E hr F0=>⟨zng K c,by
  have nd:=mK.nd;have hu:=cM hr;exact(bF (by exact(Fo (by exact(Fg (i:=2) nd rfl rfl (own:= ["row","right"]) (N' := ["row","right"]) (by show dM ["rows","rights","table","ahead","place"] _ ["row","right"] [] (bU Im) ["row","right"];symm_saturate) rfl #[nU (Q9 rfl rfl jc (aA (qv 0) (aA (qv 1) aQ)))] #[u6 rfl (lN (d7 (i:=0) (show(["row","right"]:List Str).Nodup by decide+kernel) rfl (by trivial)) (lN (d7 (i:=1) (show(["row","right"]:List Str).Nodup by decide+kernel) rfl (by trivial)) u5)),_] #[qb,_] #[dR gD (hr.mono (by decide)) rfl (aA (iC #[Fp (qv 0) (iC #[rP (aA (qv 1) aQ)])]) aQ),_]))))
   (by exact(bF #[dB (i:=3) nd rfl (by trivial) #[aM]]
   (by exact(bF #[En rfl rfl bR #[aA (oV (fun _=>vY) rfl bT boot_len (aA (qv 2) aQ)) aQ] #[d7 (i:=4) nd rfl (by trivial)]
   #[bF #[dB (i:=2) nd rfl (by trivial) #[dR jA (hr.mono (by decide)) rfl (aA (dR tQ (hr.mono (by decide)) rfl (aA (qv 2) (aA (qv 4) aQ))) (aA (qv 4) (aA (qv 3) aQ)))]]
   #[cA #[dB (i:=3) nd rfl (by trivial) #[fG (fG (qv 2) (qv 4) (fun _ _=>rfl)) (qv 4) (fun _ _=>rfl)]]]]]
   (by exact(cA (by exact(gY (by exact(iC (by exact(rD (own:= ["place","row"]) (N' := ["place","row"]) (by show dM ["rows","rights","table","ahead","place"] _ ["place","row"] [] (bU Im) ["place","row"];symm_saturate) rfl #[nU (X3 rfl rfl cI (aA (qv 2) aQ))] #[u6 rfl (lN (d7 (i:=0) (show(["place","row"]:List Str).Nodup by decide+kernel) rfl (by trivial)) (lN (d7 (i:=1) (show(["place","row"]:List Str).Nodup by decide+kernel) rfl (by trivial)) u5)),_] #[qb,_] #[dR aY (hr.mono (by decide)) rfl (aA (fG (qv 1) (Pb aM) (fun _ _=>rfl)) (aA (fG (qv 1) (qv 0) (fun _ _=>rfl)) aQ)),_]))))))))))))),fun ds Q Ex h=>zw3 h⟩,hm,F.kp,F.binds fun _ _ _ _ _ _ us hl=>by obtain⟨_,_,rfl⟩:=len2 hl;exact rfl⟩
abbrev Le:Stmt:=top 26
theorem gF:aB ["hand","sheets"] ["hand","sheets"] (bU Le):=by nofun
theorem zji(F:fM K "sheets_with" "sheets_with" Le f fd)(hm:mg "sheets_with" =some (.ref f)):cR P w K mg base "sheets_with" 1 ["hand","sheets"] (wN c):=
 ⟨f,fd,jh F gF (fun _ _ _ h=>zkl h) fun cdv A outer s H E hr F0=>⟨zfa K c,by
  have nd:=gF.nd;have hu:=cM hr;exact(cA (by exact(gY (by exact(iC (by exact(rD (own:= ["sheet"]) (N' := ["sheet","hand"]) (by show dM ["hand","sheets"] _ ["sheet"] [0] (bU Le) ["sheet","hand"];symm_saturate) rfl #[nU (qL (qv 1))] #[d7 (i:=0) (show(["sheet","hand"]:List Str).Nodup by decide+kernel) rfl (by trivial),_] #[Ql (z43 (hu1 hu) (qv 1) (qv 0) (by with_unfolding_all rfl)),_] #[qv 0,_]))))))),fun ds Q Ex h=>zk8 h⟩,hm,F.kp,F.binds fun _ _ _ _ _ _ us hl=>by obtain⟨_,_,rfl⟩:=len2 hl;exact rfl⟩
abbrev Vf:Stmt:=top 7
theorem qt:aB ["one","other"] ["one","other"] (bU Vf):=by nofun
theorem z14(F:fM K "plus" "plus" Vf f fd)(hm:mg "plus" =some (.ref f))(aY:K7 P w K mg base c):cR P w K mg base "plus" 3 ["one","other"] (BR c):=
 ⟨f,fd,jh F qt (fun _ _ _ h=>z25 h) fun cdv A outer s H E hr F0=>⟨zva K c,by
  have nd:=qt.nd;have hu:=cM hr;exact(cA #[gY #[dR aY (hr.mono (by decide)) rfl (aA (aR (fun _=>mq) (aR (fun _=>fZ) (fG (qv 0) aM (fun _ _=>rfl)) (fG (qv 1) aM (fun _ _=>rfl))) (aR (fun _=>fZ) (fG (qv 1) aM (fun _ _=>rfl)) (fG (qv 0) aM (fun _ _=>rfl)))) (aA (aR (fun _=>fZ) (fG (qv 0) aM (fun _ _=>rfl)) (fG (qv 1) aM (fun _ _=>rfl))) aQ))]]),fun ds Q Ex h=>z3d h⟩,hm,F.kp,F.binds fun _ _ _ _ _ _ us hl=>by obtain⟨_,_,rfl⟩:=len2 hl;exact rfl⟩
abbrev Vg:Stmt:=top 9
theorem oG:aB ["some","reached","part"] ["some"] (bU Vg):=by nofun
theorem zw2(F:fM K "total" "total" Vg f fd)(hm:mg "total" =some (.ref f))(jB:zs1 P w K mg base c):cR P w K mg base "total" 4 ["some"] (BX c):=
 ⟨f,fd,jh F oG (fun _ _ _ h=>z0r h) fun cdv A outer s H E hr F0=>⟨zqn K c,by
  have nd:=oG.nd;have hu:=cM hr;exact(bF #[dB (i:=1) nd rfl (by trivial) #[um (aA aM (aA aM aQ))]]
   #[bF #[vV rfl #[qv 0] #[d7 (i:=2) nd rfl (by trivial)]
   #[cA #[dB (i:=1) nd rfl (by trivial) #[dR jB (hr.mono (by decide)) rfl (aA (qv 1) (aA (qv 2) aQ))]]]]
   #[cA #[gY #[qv 1]]]]),fun ds Q Ex h=>z2c h⟩,hm,F.kp,F.binds fun _ _ _ _ _ _ us hl=>by obtain⟨_,rfl⟩:=len1 hl;exact rfl⟩
abbrev Lf:Stmt:=top 28
theorem oH:aB ["hand","other","sheets","both","through_works"] ["hand","other","sheets"] (bU Lf):=by nofun
theorem zwy(F:fM K "share" "share" Lf f fd)(hm:mg "share" =some (.ref f))(aN:UL P w K mg base c)(gO:zpn P w K mg base c)(jB:zs1 P w K mg base c)(bT:mg "len" =none):cR P w K mg base "share" 5 ["hand","other","sheets"] (Hr c):=
 ⟨f,fd,jh F oH (fun _ _ _ h=>z2d h) fun cdv A outer s H E hr F0=>⟨zqd K c,by
  have nd:=oH.nd;have hu:=cM hr;exact(bF #[dB (i:=3) nd rfl (by trivial) #[dR aN (hr.mono (by decide)) rfl (aA (qv 1) (aA (dR aN (hr.mono (by decide)) rfl (aA (qv 0) (aA (qv 2) aQ))) aQ))]]
   (by exact(bF (by exact(dB (i:=4) nd rfl (by trivial) (by exact(dR gO (hr.mono (by decide)) rfl (aA (iC (by exact(rD (own:= ["sheet"]) (N' := ["sheet"]) (by show dM ["hand","other","sheets","both","through_works"] _ ["sheet"] [] (bU Lf) ["sheet"];symm_saturate) rfl #[nU (qL (qv 3))] #[d7 (i:=0) (show(["sheet"]:List Str).Nodup by decide+kernel) rfl (by trivial),_] #[qb,_] #[um (aA (Pb aM) (aA (oV (fun _=>Z1) rfl bT boot_len (aA (qv 0) aQ)) aQ)),_]))) aQ)))))
   #[cA #[gY #[W0 (p7 (fun _=>iG hu) (qv 0) (qv 1) (aX _)) (dR jB (hr.mono (by decide)) rfl (aA (um (aA (oV (fun _=>vY) rfl bT boot_len (aA (qv 3) aQ)) (aA aM aQ))) (aA (qv 4) aQ))) (qv 4)]]]))),fun ds Q Ex h=>z1c h⟩,hm,F.kp,F.binds fun _ _ _ _ _ _ us hl=>by obtain⟨_,_,_,rfl⟩:=pJ hl;exact rfl⟩
abbrev Lg:Stmt:=top 27
theorem mL:aB ["hand","hands","sheets"] ["hand","hands","sheets"] (bU Lg):=by nofun
theorem zsw(F:fM K "shares" "shares" Lg f fd)(hm:mg "shares" =some (.ref f))(nj:cR P w K mg base "share" 5 ["hand","other","sheets"] (Hr c)):cR P w K mg base "shares" 6 ["hand","hands","sheets"] (Hs c):=
 ⟨f,fd,jh F mL (fun _ _ _ h=>zyo h) fun cdv A outer s H E hr F0=>⟨zmh K c,by
  have nd:=mL.nd;have hu:=cM hr;exact(cA (by exact(gY (by exact(iC (by exact(rD (own:= ["other"]) (N' := ["other","hand","sheets"]) (by show dM ["hand","hands","sheets"] _ ["other"] [0,2] (bU Lg) ["other","hand","sheets"];symm_saturate) rfl #[nU (qL (qv 1))] #[d7 (i:=0) (show(["other","hand","sheets"]:List Str).Nodup by decide+kernel) rfl (by trivial),_] #[qb,_] #[dR nj (hr.mono (by decide)) rfl (aA (qv 1) (aA (qv 0) (aA (qv 2) aQ))),_]))))))),fun ds Q Ex h=>zxa h⟩,hm,F.kp,F.binds fun _ _ _ _ _ _ us hl=>by obtain⟨_,_,_,rfl⟩:=pJ hl;exact rfl⟩
abbrev Vh:Stmt:=top 8
theorem oJ:aB ["one","other"] ["one","other"] (bU Vh):=by nofun
theorem zx6(F:fM K "minus" "minus" Vh f fd)(hm:mg "minus" =some (.ref f))(aY:K7 P w K mg base c):cR P w K mg base "minus" 3 ["one","other"] (G8 c):=
 ⟨f,fd,jh F oJ (fun _ _ _ h=>z16 h) fun cdv A outer s H E hr F0=>⟨zp3 K c,by
  have nd:=oJ.nd;have hu:=cM hr;exact(cA #[gY #[dR aY (hr.mono (by decide)) rfl (aA (aR (fun _=>yj) (aR (fun _=>fZ) (fG (qv 0) aM (fun _ _=>rfl)) (fG (qv 1) aM (fun _ _=>rfl))) (aR (fun _=>fZ) (fG (qv 1) aM (fun _ _=>rfl)) (fG (qv 0) aM (fun _ _=>rfl)))) (aA (aR (fun _=>fZ) (fG (qv 0) aM (fun _ _=>rfl)) (fG (qv 1) aM (fun _ _=>rfl))) aQ))]]),fun ds Q Ex h=>z1h h⟩,hm,F.kp,F.binds fun _ _ _ _ _ _ us hl=>by obtain⟨_,_,rfl⟩:=len2 hl;exact rfl⟩
abbrev Vi:Stmt:=top 30
theorem je:aB ["sheet"] ["sheet"] (bU Vi):=by nofun
theorem znn(F:fM K "mean_mark" "mean_mark" Vi f fd)(hm:mg "mean_mark" =some (.ref f))(aY:K7 P w K mg base c)(gG:mg "sum" =none)(bT:mg "len" =none):cR P w K mg base "mean_mark" 3 ["sheet"] (Ht c):=
 ⟨f,fd,jh F je (fun _ _ _ h=>zou h) fun cdv A outer s H E hr F0=>⟨zhi K c,by
  have nd:=je.nd;have hu:=cM hr;exact(cA #[gY #[dR aY (hr.mono (by decide)) rfl (aA (z05 rfl rfl gG (qv 0)) (aA (oV (fun _=>Z1) rfl bT boot_len (aA (qv 0) aQ)) aQ))]]),fun ds Q Ex h=>zop h⟩,hm,F.kp,F.binds fun _ _ _ _ _ _ us hl=>by obtain⟨_,rfl⟩:=len1 hl;exact rfl⟩
abbrev Lh:Stmt:=top 29
theorem mO:aB ["hand","sheets"] ["hand","sheets"] (bU Lh):=by nofun
theorem zr2(F:fM K "excess" "excess" Lh f fd)(hm:mg "excess" =some (.ref f))(gO:zpn P w K mg base c)(nq:cR P w K mg base "minus" 3 ["one","other"] (G8 c))(gH:cR P w K mg base "mean_mark" 3 ["sheet"] (Ht c))(aN:UL P w K mg base c):cR P w K mg base "excess" 5 ["hand","sheets"] (Hu c):=
 ⟨f,fd,jh F mO (fun _ _ _ h=>zw1 h) fun cdv A outer s H E hr F0=>⟨T3 K c,by
  have nd:=mO.nd;have hu:=cM hr;exact(cA (by exact(gY (by exact(dR gO (hr.mono (by decide)) rfl (aA (iC (by exact(rD (own:= ["sheet"]) (N' := ["sheet","hand"]) (by show dM ["hand","sheets"] _ ["sheet"] [0] (bU Lh) ["sheet","hand"];symm_saturate) rfl #[nU (qL (dR aN (hr.mono (by decide)) rfl (aA (qv 0) (aA (qv 1) aQ))))] #[d7 (i:=0) (show(["sheet","hand"]:List Str).Nodup by decide+kernel) rfl (by trivial),_] #[qb,_] #[dR nq (hr.mono (by decide)) rfl (aA (um (aA (vD (hu1 hu) (qv 0) (qv 1)) (aA aM aQ))) (aA (dR gH (hr.mono (by decide)) rfl (aA (qv 0) aQ)) aQ)),_]))) aQ)))))),fun ds Q Ex h=>zxl h⟩,hm,F.kp,F.binds fun _ _ _ _ _ _ us hl=>by obtain⟨_,_,rfl⟩:=len2 hl;exact rfl⟩
abbrev Cu:Stmt:=top 25
theorem fj:aB ["hands","sheets","lefts","rights","numbers"] ["hands","sheets"] (bU Cu):=by nofun
theorem zgu(F:fM K "group_leanings" "group_leanings" Cu f fd)(hm:mg "group_leanings" =some (.ref f))(lH:cR P w K mg base "solved" 3 ["rows","rights"] (Hl c))(lJ:cR P w K mg base "shares" 6 ["hand","hands","sheets"] (Hs c))(lK:cR P w K mg base "excess" 5 ["hand","sheets"] (Hu c))(aN:UL P w K mg base c)(bT:mg "len" =none):cR P w K mg base "group_leanings" 7 ["hands","sheets"] (Hv c):=
 ⟨f,fd,jh F fj (fun _ _ _ h=>zhr h) fun cdv A outer s H E hr F0=>⟨zdn K c,by
  have nd:=fj.nd;have hu:=cM hr;exact(bF (by exact(Fo (by exact(Fg (i:=2) nd rfl rfl (own:= ["hand"]) (N' := ["hand","hands","sheets"]) (by show dM ["hands","sheets","lefts","rights","numbers"] _ ["hand"] [0,1] (bU Cu) ["hand","hands","sheets"];symm_saturate) rfl #[nU (qL (iC #[JH (qv 0) (JG aM) JF]))] #[d7 (i:=0) (show(["hand","hands","sheets"]:List Str).Nodup by decide+kernel) rfl (by trivial),_] #[qb,_] #[dR lJ (hr.mono (by decide)) rfl (aA (qv 0) (aA (qv 1) (aA (qv 2) aQ))),_]))))
   (by exact(bF (by exact(Fo (by exact(Fg (i:=3) nd rfl rfl (own:= ["hand"]) (N' := ["hand","sheets"]) (by show dM ["hands","sheets","lefts","rights","numbers"] _ ["hand"] [1] (bU Cu) ["hand","sheets"];symm_saturate) rfl #[nU (qL (iC #[JH (qv 0) (JG aM) JF]))] #[d7 (i:=0) (show(["hand","sheets"]:List Str).Nodup by decide+kernel) rfl (by trivial),_] #[qb,_] #[dR lK (hr.mono (by decide)) rfl (aA (qv 0) (aA (qv 1) aQ)),_]))))
   (by exact(bF (by exact(Fo (by exact(Fg (i:=4) nd rfl rfl (own:= ["hand"]) (N' := ["hand","sheets"]) (by show dM ["hands","sheets","lefts","rights","numbers"] _ ["hand"] [1] (bU Cu) ["hand","sheets"];symm_saturate) rfl #[nU (qL (qv 0))] #[d7 (i:=0) (show(["hand","sheets"]:List Str).Nodup by decide+kernel) rfl (by trivial),_] #[qb,_] #[um (aA (oV (fun _=>vY) rfl bT boot_len (aA (dR aN (hr.mono (by decide)) rfl (aA (qv 0) (aA (qv 1) aQ))) aQ)) (aA aM aQ)),_]))))
   #[cA #[gY #[dR lH (hr.mono (by decide)) rfl (aA (iC #[Fp (iC #[rP (aA (qv 4) aQ)]) (qv 2)]) (aA (iC #[Fp (iC #[rP (aA (um (aA aM (aA aM aQ))) aQ)]) (qv 3)]) aQ))]]]))))),fun ds Q Ex h=>zho h⟩,hm,F.kp,F.binds fun _ _ _ _ _ _ us hl=>by obtain⟨_,_,rfl⟩:=len2 hl;exact rfl⟩
abbrev Li:Stmt:=top 24
theorem jK:aB ["rows","found","hands","sheets","hand","leaning"] ["rows"] (bU Li):=by nofun
theorem zo7(F:fM K "leanings" "leanings" Li f fd)(hm:mg "leanings" =some (.ref f))(lM:m7 P w K mg base "groups" 3 ["rows"] (Hq c))(c7:cR P w K mg base "group_leanings" 7 ["hands","sheets"] (Hv c))(dU:zj0 P w K mg base c)(dF:mg "list" =none)(jc:mg "zip" =none):m7 P w K mg base "leanings" 8 ["rows"] (Hw c):=
 ⟨f,fd,yO F jK (fun _ _ _ h=>zrq h) fun cdv A outer s H E hr F0=>⟨zh8 K c,by
  have nd:=jK.nd;have hu:=cM hr;exact(bF #[Gf (i:=1) nd rfl (by trivial) #[Ge]]
   (by exact(bF (by exact(vV rfl #[dR lM.fn (hr.mono (by decide)) rfl (aA (qv 0) aQ)] #[d7 (i:=2) nd rfl (by trivial)]
   (by exact(bF (by exact(dB (i:=3) nd rfl (by trivial) (by exact(iC (by exact(zw5 rfl rfl dF (dR dU.fn (hr.mono (by decide)) rfl (aA (iC (by exact(rD (own:= ["row"]) (N' := ["row","hands"]) (by show dM ["rows","found","hands","sheets","hand","leaning"] _ ["row"] [2] (bU Li) ["row","hands"];symm_saturate) rfl #[nU (qL (qv 0))] #[d7 (i:=0) (show(["row","hands"]:List Str).Nodup by decide+kernel) rfl (by trivial),_] #[Ql (p7 (fun _=>Ft) (fG (qv 0) aM (fun _ _=>rfl)) (qv 1) (by with_unfolding_all rfl)),_] #[qv 0,_]))) aQ))))))))
   #[cA #[Qk rfl #[Q9 rfl rfl jc (aA (qv 2) (aA (dR c7 (hr.mono (by decide)) rfl (aA (qv 2) (aA (qv 3) aQ))) aQ))] #[u6 rfl (lN (d7 (i:=4) nd rfl (by trivial)) (lN (d7 (i:=5) nd rfl (by trivial)) u5))]
   #[cA #[Sx (i:=1) (hu1 hu) rfl (by trivial) #[qv 4] #[qv 5]]]]]))))
   #[cA #[Rv #[YS (i:=1) rfl (by trivial)]]]))),fun ds Q Ex h=>zrw h⟩,hm,F.kp,F.binds fun _ _ _ _ _ _ us hl=>by obtain⟨_,rfl⟩:=len1 hl;exact rfl⟩
abbrev Vj:Stmt:=top 37
theorem dJ:aB ["_law_rows_here","_law_told","_law_bottom","_law_sums","_law_many","_law_work","_law_hand","_law_mark","_law_lean","_law_rests","_law_worked"] ["_law_rows_here","_law_told","_law_bottom"] (bU Vj):=by nofun
theorem zfk(F:fM K "_law_scaled_rests" "_law_scaled_rests" Vj f fd)(hm:mg "_law_scaled_rests" =some (.ref f)):cR P w K mg base "_law_scaled_rests" 1 ["_law_rows_here","_law_told","_law_bottom"] (HF c):=
 ⟨f,fd,jh F dJ (fun _ _ _ h=>zga h) fun cdv A outer s H E hr F0=>⟨zct K c,by
  have nd:=dJ.nd;have hu:=cM hr;exact(bF #[Gf (i:=3) nd rfl (by trivial) #[Ge]]
   #[bF #[Gf (i:=4) nd rfl (by trivial) #[Ge]]
   #[bF #[vV rfl #[qv 0] #[u6 rfl (lN (d7 (i:=5) nd rfl (by trivial)) (lN (d7 (i:=6) nd rfl (by trivial)) (lN (d7 (i:=7) nd rfl (by trivial)) u5)))]
   #[bF #[dB (i:=8) nd rfl (by trivial) #[aR (fun _=>fZ) (fG (vD (hu1 hu) (qv 1) (qv 6)) aM (fun _ _=>rfl)) (aR (fun _=>nH) (qv 2) (fG (vD (hu1 hu) (qv 1) (qv 6)) aM (fun _ _=>rfl)))]]
   #[bF #[Sx (i:=3) (hu1 hu) rfl (by trivial) #[qv 5] #[Bd (fun F0 H0=>by exact(aR (fun _=>yj) (aR (fun _=>mq) (Z0 (hu1 hu) (qv 3) (qv 5) aM ⟨rfl,rfl,rfl,rfl⟩) (aR (fun _=>fZ) (qv 7) (qv 2))) (qv 8)))]]
   #[cA #[Sx (i:=4) (hu1 hu) rfl (by trivial) #[qv 5] #[Bd (fun F0 H0=>by exact(aR (fun _=>mq) (Z0 (hu1 hu) (qv 4) (qv 5) aM ⟨rfl,rfl,rfl,rfl⟩) aM))]]]]]]
   #[bF #[Aq (i:=9) nd rfl (by trivial) #[rP aQ]]
   #[bF #[vV rfl #[qv 0] #[u6 rfl (lN (d7 (i:=5) nd rfl (by trivial)) (lN (d7 (i:=6) nd rfl (by trivial)) (lN (d7 (i:=7) nd rfl (by trivial)) u5)))]
   #[bF #[dB (i:=8) nd rfl (by trivial) #[aR (fun _=>fZ) (fG (vD (hu1 hu) (qv 1) (qv 6)) aM (fun _ _=>rfl)) (aR (fun _=>nH) (qv 2) (fG (vD (hu1 hu) (qv 1) (qv 6)) aM (fun _ _=>rfl)))]]
   #[bF #[dB (i:=10) nd rfl (by trivial) #[Bd (fun F0 H0=>by exact(aR (fun _=>fZ) (aR (fun _=>nH) aM (vD (hu1 hu) (qv 4) (qv 5))) (vD (hu1 hu) (qv 3) (qv 5))))]]
   #[cA #[Fl (i:=9) (fun _=>JM) PySem.F.slot_list_append PySem.F.type_list_append rfl (by trivial) #[aA (aR (fun _=>yj) (aR (fun _=>fZ) aM (aR (fun _=>yj) (aR (fun _=>fZ) (qv 7) (qv 2)) (qv 8))) (qv 10)) aQ]]]]]]
   #[cA #[gY #[qv 9]]]]]]]),fun ds Q Ex h=>zgj h⟩,hm,F.kp,F.binds fun _ _ _ _ _ _ us hl=>by obtain⟨_,_,_,rfl⟩:=pJ hl;exact rfl⟩
abbrev Vk:Stmt:=top 38
theorem iy:aB ["_law_cell_here","_law_mark","_law_top"] ["_law_cell_here","_law_mark"] (bU Vk):=by nofun
theorem zj7(F:fM K "_law_number" "_law_number" Vk f fd)(hm:mg "_law_number" =some (.ref f)):cR P w K mg base "_law_number" 1 ["_law_cell_here","_law_mark"] (HJ c):=
 ⟨f,fd,jh F iy (fun _ _ _ h=>zmx h) fun cdv A outer s H E hr F0=>⟨T6 K c,by
  have nd:=iy.nd;have hu:=cM hr;exact(bF #[dB (i:=2) nd rfl (by trivial) #[fG (iC #[rP (aA (aR (fun _=>yj) (aR (fun _=>ji) (aR (fun _=>nH) (qv 0) aM) aM) aM) (aA (qv 1) (aA (aR (fun _=>ji) (aR (fun _=>nH) (qv 0) aM) (aR (fun _=>Xa) aM aM)) aQ)))]) (aR (fun _=>ji) (qv 0) aM) (fun _ _=>rfl)]]
   #[cA #[gY #[aR (fun _=>nH) (aR (fun _=>fZ) (qv 2) aM) (aR (fun _=>mq) aM (aR (fun _=>ji) (aR (fun _=>nH) (qv 0) aM) aM))]]]),fun ds Q Ex h=>znf h⟩,hm,F.kp,F.binds fun _ _ _ _ _ _ us hl=>by obtain⟨_,_,rfl⟩:=len2 hl;exact rfl⟩
abbrev Vl:Stmt:=top 39
theorem eE:aB ["_law_script","_law_rows_here","_law_bottom","_law_numbers","_law_k","_law_rests","_law_work","_law_hand","_law_mark","_law_name","_law_cell_here","_law_both"] ["_law_script","_law_rows_here","_law_bottom"] (bU Vl):=by nofun
theorem zf0(F:fM K "_law_other_rests" "_law_other_rests" Vl f fd)(hm:mg "_law_other_rests" =some (.ref f))(aD:Il P w K mg base c)(fU:cR P w K mg base "_law_number" 1 ["_law_cell_here","_law_mark"] (HJ c))(lA:mg "int" =none):cR P w K mg base "_law_other_rests" 2 ["_law_script","_law_rows_here","_law_bottom"] (HN c):=
 ⟨f,fd,jh F eE (fun _ _ _ h=>zg0 h) fun cdv A outer s H E hr F0=>⟨zc7 K c,by
  have nd:=eE.nd;have hu:=cM hr;exact(bF #[Gf (i:=3) nd rfl (by trivial) #[zxx]]
   #[bF #[dB (i:=4) nd rfl (by trivial) #[aM]]
   #[bF #[Aq (i:=5) nd rfl (by trivial) #[rP aQ]]
   #[bF #[vV rfl #[qv 1] #[u6 rfl (lN (d7 (i:=6) nd rfl (by trivial)) (lN (d7 (i:=7) nd rfl (by trivial)) (lN (d7 (i:=8) nd rfl (by trivial)) u5)))]
   #[bF #[z0e (j:=9) rfl #[aA uY (aA (qv 6) aQ)] #[aA uY (aA (qv 7) aQ)] nd rfl (by trivial) #[cA #[qI #[z4y (i:=3) (j:=9) true (hu1 hu) rfl (by trivial) rfl (by trivial)]
   #[bF #[dB (i:=10) nd rfl (by trivial) #[dR aD (hr.mono (by decide)) rfl (aA (qv 0) (aA (aR (fun _=>mq) aM (qv 4)) aQ))]]
   #[bF #[z2e (i:=3) (j:=9) (hu1 hu) #[dR fU (hr.mono (by decide)) rfl (aA (qv 10) (aA (aR (fun _=>fZ) (qv 8) (Qo (fun _=>QM) rfl lA boot_int (aA (zdt (fun _=>iG hu) (Bd (fun F0 H0=>by exact(fG (qv 9) aM (fun _ _=>rfl)))) uY (aX _)) aQ))) aQ))] rfl (by trivial) rfl (by trivial)]
   #[cA #[dB (i:=4) nd rfl (by trivial) #[aR (fun _=>mq) (qv 4) aM]]]]]
   #[qH]]]]
   #[bF #[dB (i:=11) nd rfl (by trivial) #[Bd (fun F0 H0=>by exact(aR (fun _=>mq) (Zz (hu1 hu) (qv 3) (um (aA uY (aA (qv 6) aQ)))) (Zz (hu1 hu) (qv 3) (um (aA uY (aA (qv 7) aQ))))))]]
   #[cA #[Fl (i:=5) (fun _=>JM) PySem.F.slot_list_append PySem.F.type_list_append rfl (by trivial) #[aA (aR (fun _=>fZ) (aR (fun _=>fZ) aM (qv 2)) (aR (fun _=>yj) (aR (fun _=>fZ) aM (qv 8)) (qv 11))) aQ]]]]]]
   #[cA #[gY #[qv 5]]]]]]),fun ds Q Ex h=>zgs h⟩,hm,F.kp,F.binds fun _ _ _ _ _ _ us hl=>by obtain⟨_,_,_,rfl⟩:=pJ hl;exact rfl⟩
abbrev Vm:Stmt:=top 33
theorem gJ:aB ["_law_one","_law_other"] ["_law_one","_law_other"] (bU Vm):=by nofun
theorem zjc(F:fM K "_law_divisor" "_law_divisor" Vm f fd)(hm:mg "_law_divisor" =some (.ref f))(lE:mg "abs" =none):cR P w K mg base "_law_divisor" 1 ["_law_one","_law_other"] (HD c):=
 ⟨f,fd,jh F gJ (fun _ _ _ h=>zlu h) fun cdv A outer s H E hr F0=>⟨ze9 K c,by
  have nd:=gJ.nd;have hu:=cM hr;exact(bF #[dB (i:=0) nd rfl (by trivial) #[oV (fun _=>Pg) rfl lE boot_abs (aA (qv 0) aQ)]]
   #[bF #[dB (i:=1) nd rfl (by trivial) #[oV (fun _=>Pg) rfl lE boot_abs (aA (qv 1) aQ)]]
   #[bF #[W4 #[p7 (fun _=>vd) (qv 1) aM (aX _)]
   #[cA #[z31 (i:=0) (j:=1) rfl nd rfl rfl (by decide) rfl rfl (aA (qv 1) (aA (aR (fun _=>ji) (qv 0) (qv 1)) aQ)) rfl]]]
   #[cA #[gY #[qv 0]]]]]),fun ds Q Ex h=>zkn h⟩,hm,F.kp,F.binds fun _ _ _ _ _ _ us hl=>by obtain⟨_,_,rfl⟩:=len2 hl;exact rfl⟩
abbrev nu:Stmt:=top 40
theorem tR:aB ["_law_script","_law_rows_here","_law_told","_law_bottom","_law_hand","_law_mine","_law_other","_law_best","_law_rival"] ["_law_script"] (bU nu):=by nofun
theorem z6d(hr:eN 8 (A.deeper (envOfC "law" (bU nu) s.heap.objs.size f cdv)))(cF:UJ P w K mg base c)(cG:UW P w K mg base c)(aL:U0 P w K mg base c)(aP:U3 P w K mg base c)(aD:Il P w K mg base c)(bG:U4 P w K mg base c)(gG:mg "sum" =none):pA (jM (gK P w) P w K mg base ["_law_script","_law_rows_here","_law_told","_law_bottom","_law_hand","_law_mine","_law_other","_law_best","_law_rival"] "law" (bU nu) f cdv A outer s H E) F0 H (rJ nu) (HS K c):=by
 have nd:=tR.nd;have hu:(A.deeper (envOfC "law" (bU nu) s.heap.objs.size f cdv)).units+21<cLine:=by have:=hr.units;omega
 exact(bF #[dB (i:=1) nd rfl (by trivial) #[dR cF (hr.mono (by decide)) rfl (aA (qv 0) (aA (aR (fun _=>mq) aM (aR (fun _=>ji) (dR aD (hr.mono (by decide)) rfl (aA (qv 0) (aA aM aQ))) aM)) (aA (aR (fun _=>ji) (dR aD (hr.mono (by decide)) rfl (aA (qv 0) (aA aM aQ))) aM) aQ)))]]
 (by exact(bF #[dB (i:=2) nd rfl (by trivial) #[z13 #[YX cG (hr.mono (by decide)) rfl (aA (qv 1) aQ)]]]
 (by exact(bF #[dB (i:=3) nd rfl (by trivial) #[aM]]
 (by exact(bF #[Qk rfl #[zz9 (qv 2)] #[d7 (i:=4) nd rfl (by trivial)]
 #[cA #[dB (i:=3) nd rfl (by trivial) #[aR (fun _=>fZ) (qv 3) (aR (fun _=>nH) (fG (vD (hu1 hu) (qv 2) (qv 4)) aM (fun _ _=>rfl)) (dR bG (hr.mono (by decide)) rfl (aA (qv 3) (aA (fG (vD (hu1 hu) (qv 2) (qv 4)) aM (fun _ _=>rfl)) aQ))))]]]]
 (by exact(bF #[dB (i:=5) nd rfl (by trivial) #[dR aL (hr.mono (by decide)) rfl (aA (qv 1) (aA (qv 2) (aA (qv 3) aQ)))]]
 (by exact(bF #[dB (i:=6) nd rfl (by trivial) #[dR aP (hr.mono (by decide)) rfl (aA (qv 0) (aA (qv 1) (aA (qv 3) aQ)))]]
 (by exact(bF (by exact(dB (i:=7) nd rfl (by trivial) (by exact(oV (fun _=>XQ rfl) rfl gG boot_sum (aA (iC (by exact(rD (own:= ["_law_one"]) (N' := ["_law_one"]) (by show dM ["_law_script","_law_rows_here","_law_told","_law_bottom","_law_hand","_law_mine","_law_other","_law_best","_law_rival"] _ ["_law_one"] [] (bU nu) ["_law_one"];symm_saturate) rfl #[nU (qL (qv 5))] #[d7 (i:=0) (show(["_law_one"]:List Str).Nodup by decide+kernel) rfl (by trivial),_] #[qb,_] #[aR (fun _=>fZ) (qv 0) (qv 0),_]))) aQ)))))
 (by exact(bF (by exact(dB (i:=8) nd rfl (by trivial) (by exact(oV (fun _=>XQ rfl) rfl gG boot_sum (aA (iC (by exact(rD (own:= ["_law_one"]) (N' := ["_law_one"]) (by show dM ["_law_script","_law_rows_here","_law_told","_law_bottom","_law_hand","_law_mine","_law_other","_law_best","_law_rival"] _ ["_law_one"] [] (bU nu) ["_law_one"];symm_saturate) rfl #[nU (qL (qv 6))] #[d7 (i:=0) (show(["_law_one"]:List Str).Nodup by decide+kernel) rfl (by trivial),_] #[qb,_] #[aR (fun _=>fZ) (qv 0) (qv 0),_]))) aQ)))))
 #[cA #[gY #[WY (zdt (fun _=>yp) (qv 7) (qv 8) (aX _)) (Ej (Oi (zdt (fun _=>iG hu) (qv 7) (qv 8) (aX _)) (Ej (zdt (fun _=>iG hu) (qv 5) (qv 6) (aX _)))))]]])))))))))))))))
theorem zzb(F:fM K "law" "law" nu f fd)(cF:UJ P w K mg base c)(cG:UW P w K mg base c)(aL:U0 P w K mg base c)(aP:U3 P w K mg base c)(aD:Il P w K mg base c)(bG:U4 P w K mg base c)(gG:mg "sum" =none):dX P w K mg base (gK P w) 9 f fd ["_law_script"] (jR K (Ku c)):=
 jh F tR (fun _ _ _ h=>z6a h) fun cdv A outer s H E hr F0=>⟨HS K c,z6d c hr cF cG aL aP aD bG gG,fun ds Q Ex h=>z6e h⟩
theorem z6j(F:fM K "law" "law" nu f fd)(hm:mg "law" =some (.ref f))(cF:UJ P w K mg base c)(cG:UW P w K mg base c)(aL:U0 P w K mg base c)(aP:U3 P w K mg base c)(aD:Il P w K mg base c)(bG:U4 P w K mg base c)(gG:mg "sum" =none):cR P w K mg base "law" 9 ["_law_script"] (Ku c):=
 ⟨f,fd,zzb c F cF cG aL aP aD bG gG,hm,F.kp,F.binds fun _ _ _ _ _ _ us hl=>by obtain⟨_,rfl⟩:=len1 hl;exact rfl⟩
end
def ds:List (Str×Stmt):= [Hd.d "_law_names" U5,Hd.d "_law_cell" U6,Hd.d "_law_marked" U7,Hd.d "_law_rows" U8,Hd.d "meet" K8,Hd.d "joined" K9,Hd.d "by_work" U9,Hd.d "groups" Va,Hd.d "divisor" Vb,Hd.d "whole_row" La,Hd.d "without" Lb,Hd.d "cleared" Ld,Hd.d "fraction" Vc,Hd.d "exchanged" Vd,Hd.d "led" Ve,Hd.d "solved" Im,Hd.d "sheets_with" Le,Hd.d "plus" Vf,Hd.d "total" Vg,Hd.d "share" Lf,Hd.d "shares" Lg,Hd.d "minus" Vh,Hd.d "mean_mark" Vi,Hd.d "excess" Lh,Hd.d "group_leanings" Cu,Hd.d "leanings" Li,Hd.d "_law_scaled_rests" Vj,Hd.d "_law_number" Vk,Hd.d "_law_other_rests" Vl,Hd.d "_law_divisor" Vm,Hd.d "law" nu]
def obs(K:W.Frag):Bool×List (Option FuncData)×List (Option FuncData):=(
 decide (Hd.isRef (W.nsIn K mainGlobals "NoFraction")=true)&&(
 decide (Hd.isRef (W.nsIn K mainGlobals "NoAnswer")=true)&&(
 decide (W.excIn K (Hd.adr (W.nsIn K mainGlobals "NoFraction")) [.type "ValueError",.type "Exception",.type "BaseException",.type "object"] "ValueError.__new__" =true)&&(
 decide (W.excIn K (Hd.adr (W.nsIn K mainGlobals "NoAnswer")) [.type "ValueError",.type "Exception",.type "BaseException",.type "object"] "ValueError.__new__" =true)&&(
 decide (W.nsIn K mainGlobals "range" =some none)&&(
 decide (W.nsIn K mainGlobals "int" =some none)&&(
 decide (W.nsIn K mainGlobals "len" =some none)&&(
 decide (W.nsIn K mainGlobals "any" =some none)&&(
 decide (W.nsIn K mainGlobals "list" =some none)&&(
 decide (W.nsIn K mainGlobals "sorted" =some none)&&(
 decide (W.nsIn K mainGlobals "set" =some none)&&(
 decide (W.nsIn K mainGlobals "abs" =some none)&&(
 decide (W.nsIn K mainGlobals "zip" =some none)&&(
 decide (W.nsIn K mainGlobals "enumerate" =some none)&&(
 decide (W.nsIn K mainGlobals "sum" =some none)&&(true))))))))))))))),
 Hd.seen K ds,[])
def good:Bool×List (Option FuncData)×List (Option FuncData):=(true,Hd.due ds,
 [])
theorem z33{l:W.OpenLaw}{w:World}{K:W.Frag}{h:Heap}{mg:Str ->Option Value}{fa:Addr}(O:obs K=good)(X:K.In h)(G:h.Ns mainGlobals mg)(hfa:mg "law" =some (.ref fa)):
 ∃fd:FuncData,(∀(s:Shared) (v:Value),BindsTo s fd ⟨[v],[]⟩ [("_law_script",v)])/\∀base:Heap,K.In base ->base.Ns mainGlobals mg ->dX l.prog w K mg base (gK l.prog w) 9 fa fd ["_law_script"] (jR K Jw):=by
 obtain⟨B,L⟩:=Prod.mk.inj O;obtain⟨L,M⟩:=Prod.mk.inj L;obtain⟨nA,B⟩:=Hd.aT B;obtain⟨pK,B⟩:=Hd.aT B;obtain⟨nC,B⟩:=Hd.aT B;obtain⟨pL,B⟩:=Hd.aT B;obtain⟨vK,B⟩:=Hd.aT B;obtain⟨Io,B⟩:=Hd.aT B;obtain⟨Ip,B⟩:=Hd.aT B;obtain⟨Ir,B⟩:=Hd.aT B;obtain⟨Ac,B⟩:=Hd.aT B;obtain⟨tU,B⟩:=Hd.aT B;obtain⟨Iu,B⟩:=Hd.aT B;obtain⟨Iv,B⟩:=Hd.aT B;obtain⟨Iw,B⟩:=Hd.aT B;obtain⟨oK,B⟩:=Hd.aT B;obtain⟨Iz,B⟩:=Hd.aT B
 let c:Cls:={bK:=Hd.adr (W.nsIn K mainGlobals "NoFraction"),dh:=Hd.adr (W.nsIn K mainGlobals "NoAnswer")}
 have dN:mg "NoFraction" =some (.ref c.bK)/\nQ K c.bK:=⟨W.mg_of X G (Hd.adr_of nA),nC⟩;have fQ:mg "NoAnswer" =some (.ref c.dh)/\nQ K c.dh:=⟨W.mg_of X G (Hd.adr_of pK),pL⟩;have bR:mg "range" =none:=W.mg_none_of X G vK;have lA:mg "int" =none:=W.mg_none_of X G Io;have bT:mg "len" =none:=W.mg_none_of X G Ip;have tL:mg "any" =none:=W.mg_none_of X G Ir;have dF:mg "list" =none:=W.mg_none_of X G Ac;have fK:mg "sorted" =none:=W.mg_none_of X G tU;have tM:mg "set" =none:=W.mg_none_of X G Iu;have lE:mg "abs" =none:=W.mg_none_of X G Iv;have jc:mg "zip" =none:=W.mg_none_of X G Iw;have cI:mg "enumerate" =none:=W.mg_none_of X G oK;have gG:mg "sum" =none:=W.mg_none_of X G Iz;obtain⟨l0,L⟩:=Hd.seen_cons L;obtain⟨f0,fd0,a0,oM⟩:=Hd.fun_at l0;obtain⟨l1,L⟩:=Hd.seen_cons L;obtain⟨f1,fd1,a1,pN⟩:=Hd.fun_at l1;obtain⟨l2,L⟩:=Hd.seen_cons L;obtain⟨f2,fd2,a2,nD⟩:=Hd.fun_at l2;obtain⟨l3,L⟩:=Hd.seen_cons L;obtain⟨f3,fd3,a3,pO⟩:=Hd.fun_at l3;obtain⟨l4,L⟩:=Hd.seen_cons L;obtain⟨f4,fd4,a4,Ad⟩:=Hd.fun_at l4;obtain⟨l5,L⟩:=Hd.seen_cons L;obtain⟨f5,fd5,a5,tV⟩:=Hd.fun_at l5;obtain⟨l6,L⟩:=Hd.seen_cons L;obtain⟨f6,fd6,a6,qX⟩:=Hd.fun_at l6;obtain⟨l7,L⟩:=Hd.seen_cons L;obtain⟨f7,fd7,a7,tW⟩:=Hd.fun_at l7;obtain⟨l8,L⟩:=Hd.seen_cons L;obtain⟨f8,fd8,a8,qY⟩:=Hd.fun_at l8;obtain⟨l9,L⟩:=Hd.seen_cons L;obtain⟨f9,fd9,a9,oN⟩:=Hd.fun_at l9;obtain⟨l10,L⟩:=Hd.seen_cons L;obtain⟨f10,abt,a10,qZ⟩:=Hd.fun_at l10;obtain⟨l11,L⟩:=Hd.seen_cons L;obtain⟨f11,abu,a11,rA⟩:=Hd.fun_at l11;obtain⟨Ux,L⟩:=Hd.seen_cons L;obtain⟨f12,abv,a12,pP⟩:=Hd.fun_at Ux;obtain⟨l13,L⟩:=Hd.seen_cons L;obtain⟨f13,abw,a13,oO⟩:=Hd.fun_at l13;obtain⟨l14,L⟩:=Hd.seen_cons L;obtain⟨f14,abx,a14,IK⟩:=Hd.fun_at l14;obtain⟨l15,L⟩:=Hd.seen_cons L;obtain⟨f15,aby,a15,tY⟩:=Hd.fun_at l15;obtain⟨l16,L⟩:=Hd.seen_cons L;obtain⟨f16,abz,a16,lV⟩:=Hd.fun_at l16;obtain⟨l17,L⟩:=Hd.seen_cons L;obtain⟨f17,abA,a17,Ae⟩:=Hd.fun_at l17;obtain⟨l18,L⟩:=Hd.seen_cons L;obtain⟨f18,abB,a18,vL⟩:=Hd.fun_at l18;obtain⟨l19,L⟩:=Hd.seen_cons L;obtain⟨f19,abC,a19,vM⟩:=Hd.fun_at l19;obtain⟨l20,L⟩:=Hd.seen_cons L;obtain⟨f20,abD,a20,tZ⟩:=Hd.fun_at l20;obtain⟨l21,L⟩:=Hd.seen_cons L;obtain⟨f21,abE,a21,vN⟩:=Hd.fun_at l21;obtain⟨l22,L⟩:=Hd.seen_cons L;obtain⟨f22,abF,a22,oR⟩:=Hd.fun_at l22;obtain⟨l23,L⟩:=Hd.seen_cons L;obtain⟨f23,abG,a23,uc⟩:=Hd.fun_at l23;obtain⟨l24,L⟩:=Hd.seen_cons L;obtain⟨f24,abH,a24,jC⟩:=Hd.fun_at l24;obtain⟨l25,L⟩:=Hd.seen_cons L;obtain⟨f25,abI,a25,pQ⟩:=Hd.fun_at l25;obtain⟨l26,L⟩:=Hd.seen_cons L;obtain⟨f26,abJ,a26,iM⟩:=Hd.fun_at l26;obtain⟨l27,L⟩:=Hd.seen_cons L;obtain⟨f27,abK,a27,nF⟩:=Hd.fun_at l27;obtain⟨l28,L⟩:=Hd.seen_cons L;obtain⟨f28,abL,a28,jf⟩:=Hd.fun_at l28;obtain⟨l29,L⟩:=Hd.seen_cons L;obtain⟨f29,abM,a29,lW⟩:=Hd.fun_at l29;obtain⟨l30,L⟩:=Hd.seen_cons L;obtain⟨f30,Vn,a30,wY⟩:=Hd.fun_at l30;have e:=hfa.symm.trans (W.mg_of X G a30);cases e;refine⟨Vn,Hd.start_binds wY (fun _ _ _ _ _ _ _=>rfl),fun base kb nb=> ?_⟩;have eZ:=znc (P:=l.prog) (w:=w) (base:=base) c oM (W.mg_of X G a0) bR lA;have aD:=znx (P:=l.prog) (w:=w) (base:=base) c pN (W.mg_of X G a1) bT;have fP:=zkb (P:=l.prog) (w:=w) (base:=base) c nD (W.mg_of X G a2);have cF:=zor (P:=l.prog) (w:=w) (base:=base) c pO (W.mg_of X G a3) eZ aD fP bR bT;have m9:=z0a (P:=l.prog) (w:=w) (base:=base) c Ad (W.mg_of X G a4) tL;have lC:=zvh (P:=l.prog) (w:=w) (base:=base) c tV (W.mg_of X G a5) m9 dF fK tM;have dU:=zrn (P:=l.prog) (w:=w) (base:=base) c qX (W.mg_of X G a6);have lM:=zv0 (P:=l.prog) (w:=w) (base:=base) c tW (W.mg_of X G a7) lC dU fK dF;have dW:=zq8 (P:=l.prog) (w:=w) (base:=base) c qY (W.mg_of X G a8) lE;have gD:=zmo (P:=l.prog) (w:=w) (base:=base) c oN (W.mg_of X G a9) dW;have jz:=zre (P:=l.prog) (w:=w) (base:=base) c qZ (W.mg_of X G a10) jc;have jA:=zro (P:=l.prog) (w:=w) (base:=base) c rA (W.mg_of X G a11) jz cI;have aY:=zn9 (P:=l.prog) (w:=w) (base:=base) c pP (W.mg_of X G a12) dW dN;have gC:=znt (P:=l.prog) (w:=w) (base:=base) c oO (W.mg_of X G a13) dF;have tQ:=z4r (P:=l.prog) (w:=w) (base:=base) c IK (W.mg_of X G a14) gC bR bT fQ;have lH:=zss (P:=l.prog) (w:=w) (base:=base) c tY (W.mg_of X G a15) gD jA aY tQ bR bT jc cI;have aN:=zji (P:=l.prog) (w:=w) (base:=base) c lV (W.mg_of X G a16);have jB:=z14 (P:=l.prog) (w:=w) (base:=base) c Ae (W.mg_of X G a17) aY;have gO:=zw2 (P:=l.prog) (w:=w) (base:=base) c vL (W.mg_of X G a18) jB;have nj:=zwy (P:=l.prog) (w:=w) (base:=base) c vM (W.mg_of X G a19) aN gO jB bT;have lJ:=zsw (P:=l.prog) (w:=w) (base:=base) c tZ (W.mg_of X G a20) nj;have nq:=zx6 (P:=l.prog) (w:=w) (base:=base) c vN (W.mg_of X G a21) aY;have gH:=znn (P:=l.prog) (w:=w) (base:=base) c oR (W.mg_of X G a22) aY gG bT;have lK:=zr2 (P:=l.prog) (w:=w) (base:=base) c uc (W.mg_of X G a23) gO nq gH aN
 have c7:=zgu (P:=l.prog) (w:=w) (base:=base) c jC (W.mg_of X G a24) lH lJ lK aN bT;have cG:=zo7 (P:=l.prog) (w:=w) (base:=base) c pQ (W.mg_of X G a25) lM c7 dU dF jc;have aL:=zfk (P:=l.prog) (w:=w) (base:=base) c iM (W.mg_of X G a26);have fU:=zj7 (P:=l.prog) (w:=w) (base:=base) c nF (W.mg_of X G a27);have aP:=zf0 (P:=l.prog) (w:=w) (base:=base) c jf (W.mg_of X G a28) aD fU lA;have bG:=zjc (P:=l.prog) (w:=w) (base:=base) c lW (W.mg_of X G a29) lE;exact zzb (P:=l.prog) (w:=w) (base:=base) c wY cF cG aL aP aD bG gG
abbrev pg:Program:=PySem.Challenge.pw_hall_k35_whole_none_fits_better
abbrev lw:W.OpenLaw:=PySem.Challenge.rw_hall_k35_whole_none_fits_better
abbrev vw:Program:=W.view pg [40]
def loose:List Str:=pg.boundNames.filter fun x=>x != "law"
theorem hd_e:W.opening pg=W.plainProg pg.main.scope.names:=by kernel_rfl
theorem hd_f(s:Shared):PySem.fenceModules? pg s=some s:=by kernel_rfl
theorem hd_A(w:World)(os:OsState):W.topGo treeTable pg w 11 Hd.ann 12 (Hd.S0 w os) (W.topStub pg)=some (Hd.fore treeTable W.topGo pg w os,⟨denote treeTable (Hd.cB pg),Hd.cB pg,Hd.z,[W.topFrame Hd.z]⟩):=by
 rw[PySem.W.Fast.te15667345088766844465,PySem.W.Fast.te11892475500146522536,PySem.W.Fast.te14364793385576792824];kernel_rfl
theorem hd_B(w:World)(os:OsState):W.segRun treeTable pg w 11 Hd.ann 1 1 (Hd.fore treeTable W.topGo pg w os) (W.blockOf (W.behindTheImports pg) (Hd.env pg) (Hd.cB pg) Hd.z [W.topFrame Hd.z])=some (.next,Hd.fore treeTable W.topGo pg w os,Hd.cB pg,Hd.z):=by
 rw[PySem.W.Fast.te15667345088766844465,PySem.W.Fast.te14374325043358763698,PySem.W.Fast.te14364793385576792824];kernel_rfl
theorem hd_C(w:World)(os:OsState):(Hd.Ta (Hd.fore treeTable W.topGo pg w os)).abs=Hd.fore treeTable W.topGo pg w os:=by
 rw[PySem.W.Fast.te15667345088766844465,PySem.W.Fast.te14364793385576792824];kernel_rfl
theorem hd_D(w:World)(os:OsState):Hd.shot treeTable W.topGo W.segRunT W.topRun execs pg (Hd.rest W.openSeen pg vw loose (fun _=>true) obs 1500 w) w os=some ((.next,Hd.cB pg),(true,W.openGood vw loose,good)):=by
 rw[PySem.W.Fast.te15667345088766844465,PySem.W.Fast.te10110043849684766642,PySem.W.Fast.te14082659384304107361,PySem.W.Fast.te12563942051412417395,PySem.W.Fast.te4187177175401517315,PySem.W.Fast.te14364793385576792824];kernel_rfl
theorem hd_said:lw.wellSaid=true:=by kernel_rfl
theorem hd_ok:(W.chainsOk vw&&W.opensWell lw.row.prog&&(W.frees lw.row.toRowW&&lw.row.within.isEmpty))=true:=by kernel_rfl
theorem hd_bare:lw.row.prog.bare:=⟨rfl,rfl,rfl,rfl,rfl,by decide+kernel⟩
theorem hd_wit:lw.row.toRowW.promised:=by w_witness2
theorem hd_d:W.defOf vw lw.row.name=some (Hd.recOf nu,[]):=by kernel_rfl
theorem hd_p:lw.row.prog.theDef lw.row.name=some ((Hd.recOf nu).params,(Hd.recOf nu).body,(Hd.recOf nu).scope):=by kernel_rfl
theorem hd_k:W.kwWritten? (Hd.recOf nu).params.kwonlyargs (Hd.recOf nu).params.kw_defaults=some []:=by kernel_rfl
theorem hd_n:(Hd.recOf nu).name= "law" :=by kernel_rfl
theorem hd_z:(Hd.recOf nu).params.defaults= []:=by kernel_rfl
theorem hd_w:W.WalkO vw loose (fun _ _=>True) (fun _ h=>∃K:W.Frag,K.In h/\obs K=good) lw.row.toRowW (Hd.recOf nu) [] (fun f vs=>PySem.call f vs):=
 Hd.walk_ex (n:=63) (k:=9) (x:= "_law_script") (CX:=fun w=>gK lw.prog w) (sp:=fun K=>jR K Jw) (Fx:=fun K=>obs K=good) rfl (by decide) hd_z ⟨rfl,by decide,by decide⟩ (fun _ _ h=>h) (fun w K mg fa h O X G hm=>z33 O X G (hd_n ▸ hm)) (fun K H a ns hl hO hS=>zsy hl hS) fun _ _ _ _ _ z=>zxg z
end Lw
theorem PySem.Challenge.cw_hall_k35_whole_none_fits_better_holds : PySem.Challenge.rw_hall_k35_whole_none_fits_better.Holds :=
 Hd.holds Lw.hd_said (Hd.left Lw.hd_e Lw.hd_f Lw.hd_A Lw.hd_B Lw.hd_C Lw.hd_D) Lw.hd_d Lw.hd_p Lw.hd_k Lw.hd_ok Lw.hd_bare Lw.hd_wit rfl Lw.hd_w
#print axioms PySem.Challenge.cw_hall_k35_whole_none_fits_better_holds
