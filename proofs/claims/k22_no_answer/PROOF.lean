import PyProof.Rows.All
import Wide.All
import OpenK.AllK
import Wide.FinOn
import Lean
import PyProof.EqAt
import PyProof.EqKinds
import PyProof.TupleCall
import PyProof.NeKinds
import PySem.Challenge.RW_hall_k22_no_answer
set_option Elab.async false
set_option linter.all false
set_option maxRecDepth 100000
set_option maxHeartbeats 4000000
namespace L2
open PySem PySem.Spec PyProof.Rows

abbrev Key := Sum Int Str
def keyIs : Key → Value → Bool
  | .inl k, v => Value.isInt k v
  | .inr x, v => Value.isStrOf x v
def keyH (w : World) : Key → Int
  | .inl k => hashInt k
  | .inr x => hashStr w x
theorem keyIs_shape : ∀ {k : Key} {v : Value}, keyIs k v = true → (∃ i t, k = Sum.inl i ∧ v = Value.int i t) ∨ (∃ x t, k = Sum.inr x ∧ v = Value.str x t)
  | .inl i, v, h => by
    obtain ⟨t, e⟩ := Value.isInt_shape (k := i) (v := v) h
    exact .inl ⟨i, t, rfl, e⟩
  | .inr x, v, h => by
    obtain ⟨t, e⟩ := Value.isStrOf_shape (x := x) (v := v) h
    exact .inr ⟨x, t, rfl, e⟩
theorem key_ll (a b : Int) : decide ((Sum.inl a : Key) = Sum.inl b) = (a == b) := by
  by_cases e : a = b
  · subst e; simp
  · have h : ¬ (Sum.inl a : Key) = Sum.inl b := fun q => e (Sum.inl.inj q)
    rw [decide_eq_false h]
    exact (beq_eq_false_iff_ne.mpr e).symm
theorem key_rr (a b : Str) : decide ((Sum.inr a : Key) = Sum.inr b) = decide (a = b) := by
  by_cases e : a = b
  · subst e; simp
  · have h : ¬ (Sum.inr a : Key) = Sum.inr b := fun q => e (Sum.inr.inj q)
    rw [decide_eq_false h, decide_eq_false e]
theorem key_lr (a : Int) (b : Str) : decide ((Sum.inl a : Key) = Sum.inr b) = false := decide_eq_false (fun q => nomatch q)
theorem key_rl (a : Str) (b : Int) : decide ((Sum.inr a : Key) = Sum.inl b) = false := decide_eq_false (fun q => nomatch q)

def mixKind (prog : Program) (w : World) : PySem.KeyKind prog w Key where
  is := keyIs
  hash := keyH w
  inj := fun v a b ha hb => by
    rcases keyIs_shape ha with ⟨i, t, rfl, rfl⟩ | ⟨x, t, rfl, rfl⟩
    · rcases keyIs_shape hb with ⟨j, u, rfl, e⟩ | ⟨y, u, rfl, e⟩
      · injection e with e1 _; rw [e1]
      · exact nomatch e
    · rcases keyIs_shape hb with ⟨j, u, rfl, e⟩ | ⟨y, u, rfl, e⟩
      · exact nomatch e
      · injection e with e1 _; rw [e1]
  byValue := fun k v h => by
    rcases keyIs_shape h with ⟨i, t, rfl, rfl⟩ | ⟨x, t, rfl, rfl⟩ <;> rfl
  pyHash := fun hv h => by
    rcases keyIs_shape hv with ⟨i, t, rfl, rfl⟩ | ⟨x, t, rfl, rfl⟩
    · exact wpAny_pyHash_int h
    · exact wpAny_pyHash_str h
  eqBool := fun hu hv h => by
    rcases keyIs_shape hu with ⟨i, t, rfl, rfl⟩ | ⟨x, t, rfl, rfl⟩
    · rcases keyIs_shape hv with ⟨j, u, rfl, rfl⟩ | ⟨y, u, rfl, rfl⟩
      · rw [key_ll] at h; exact wpAny_eqBool_int h
      · rw [key_lr] at h; exact SeqAt.EqAt.int_str i t y u _ _ _ _ h
    · rcases keyIs_shape hv with ⟨j, u, rfl, rfl⟩ | ⟨y, u, rfl, rfl⟩
      · rw [key_rl] at h; exact SeqAt.EqAt.str_int x t j u _ _ _ _ h
      · rw [key_rr] at h; exact wpAny_eqBool_str h
  «strs» := fun k x t v h => by
    rcases keyIs_shape h with ⟨i, u, rfl, e⟩ | ⟨y, u, rfl, e⟩
    · exact nomatch e
    · injection e with e1 _
      subst e1
      cases v <;> rfl

end L2

namespace L2
open PySem PySem.Spec PyProof.Rows

inductive V where
  | non | bl (b : Bool) | int (i : Int) | str (x : Str) | byt (b : Array UInt8) | flt (b : UInt64) | ref (a : Addr) | ty (n : String)
  deriving DecidableEq

def RelV : V → Value → Prop
  | .non, u => u = Value.none
  | .bl b, u => u = Value.bool b
  | .int i, u => ∃ t, u = Value.int i t
  | .str x, u => ∃ t, u = Value.str x t
  | .byt b, u => ∃ t, u = Value.bytes b t
  | .flt b, u => ∃ t, u = Value.float b t
  | .ref a, u => u = Value.ref a
  | .ty n, u => u = Value.type n

abbrev Vals : List V → List Value → Prop := Paired RelV
theorem Vals.length {xs : List V} {us : List Value} (r : Vals xs us) : xs.length = us.length := Paired.length r
theorem Vals.get : ∀ {xs : List V} {us : List Value} {i : Nat} {x : V}, Vals xs us → xs[i]? = some x → ∃ u, us[i]? = some u ∧ RelV x u
  | _, _, _, _, .nil, e => by simp at e
  | _, _, 0, _, .cons r _, e => by simp at e; subst e; exact ⟨_, rfl, r⟩
  | _, _, i + 1, x, .cons _ t, e => by
    obtain ⟨u, h1, h2⟩ := Vals.get (i := i) (x := x) t (by simpa using e)
    exact ⟨u, by simpa using h1, h2⟩
theorem Vals.set {x : V} {u : Value} (r : RelV x u) : ∀ {xs : List V} {us : List Value} (i : Nat), Vals xs us → Vals (xs.set i x) (us.set i u)
  | _, _, _, .nil => .nil
  | _, _, 0, .cons _ t => .cons r t
  | _, _, i + 1, .cons q t => .cons q (Vals.set r i t)
theorem Vals.append : ∀ {xs ys : List V} {us ws : List Value}, Vals xs us → Vals ys ws → Vals (xs ++ ys) (us ++ ws)
  | _, _, _, _, .nil, s => s
  | _, _, _, _, .cons r t, s => .cons r (Vals.append t s)
def RelO : Option V → Option Value → Prop
  | some v, some u => RelV v u
  | none, none => True
  | _, _ => False
def KV {κ : Type} : List (κ × V) → List (κ × Value) → Prop := Paired fun (p : κ × V) (q : κ × Value) => p.1 = q.1 ∧ RelV p.2 q.2

def kV : Key → V
  | .inl i => .int i
  | .inr x => .str x

inductive HO where
  /-- a list -/
  | lst (xs : List V)
  /-- a tuple (never changes) -/
  | tup (xs : List V)
  /-- a dict whose keys are ints and texts; one whose keys are tuples of ints and texts (the empty one is both) -/
  | dK (kvs : List (Key × V)) | dT (kvs : List (List Key × V))
  /-- a set of ints: its members, its size -/
  | set (S : Int → Bool) (n : Nat)
  /-- an instance of the class at C, its dict at dx, its attributes -/
  | ins (C dx : Addr) (fs : List (Str × V))
  /-- the dict of the instance at x -/
  | own (x : Addr)
  /-- the dict of an exception -/
  | xd (fs : List (Str × V))
  /-- a bound method, f of x -/
  | met (f x : Addr)
  /-- a range object lo, lo + 1, .. below hi -/
  | rng (lo hi : Int)
  /-- a thing that is known to the object (the script; a dict while a loop walks it): read, never written while it is so -/
  | frz (o : Obj) (u : HO)
  /-- a code object's table -/
  | tbl (ps : Array Value)
  /-- any other thing, by what is true of its one object (a def of one's own: SetO a S n := HO.ext fun h => ..) -/
  | ext (φ : Heap → Prop)

abbrev Hp := Addr → Option HO
def upd (H : Hp) (a : Addr) (o : HO) : Hp := fun b => if b = a then some o else H b
theorem upd_same {H : Hp} {a : Addr} {o : HO} : upd H a o a = some o := by unfold upd; rw [if_pos rfl]
theorem upd_ne {H : Hp} {a b : Addr} {o : HO} (h : b ≠ a) : upd H a o b = H b := by unfold upd; rw [if_neg h]
theorem ne_of_none {H : Hp} {a b : Addr} {o : HO} (h : H a = some o) (h' : H b = none) : a ≠ b := by
  intro e; subst e; rw [h] at h'; cases h'

section
variable (P : Program) (w : World)
def ObjOk (H : Hp) (h : Heap) (a : Addr) : HO → Prop
  | .lst xs => xs.length ≤ sizeLine ∧ ∃ (its : List Value) (n : Nat), Vals xs its ∧ h.get? a = some { cls := .type "list", data := .seq its.toArray n }
  | .tup xs => xs.length ≤ sizeLine ∧ ∃ its : List Value, Vals xs its ∧ IsTup h a its.toArray
  | .dK kvs => kvs.length ≤ sizeLine ∧ (a == sysModules) = false ∧ ∃ vs, KV kvs vs ∧ h.DictOf (mixKind P w) a vs
  | .dT kvs => kvs.length ≤ sizeLine ∧ (a == sysModules) = false ∧ ∃ xs : List (List Key × Addr × Value),
      Paired (fun (p : List Key × V) (q : List Key × Addr × Value) => p.1 = q.1 ∧ H q.2.1 = some (.tup (p.1.map kV)) ∧ RelV p.2 q.2.2) kvs xs ∧
      ∃ o es ep, h.get? a = some o ∧ o.ExactDict ∧ o.data = .dict es ep ∧ es.toList = xs.map (entryOfKey (tupleKind (mixKind P w))) ∧ (xs.map (·.1)).Nodup
  | .set S n => h.SetOf (intKind P w) a S n
  | .ins C dx fs => H dx = some (.own a) ∧ fs.length ≤ 1000 ∧ dx ≠ a ∧ h.get? a = some (PySem.W.instObj C dx) ∧
      ∃ mA, h.Ns1 dx mA ∧ (∀ f, RelO (fs.lookup f) (mA f)) ∧ PySem.Within mA (fs.map (·.1))
  | .own _ => ∃ o, h.get? a = some o
  | .xd fs => ∃ mA, h.Ns1 a mA ∧ ∀ f, RelO (fs.lookup f) (mA f)
  | .rng lo hi => ∃ t u v, h.get? a = some { cls := .type "range", data := .fields #[.int lo t, .int hi u, .int 1 v] }
  | .frz o u => h.get? a = some o ∧ ObjOk H h a u
  | .tbl ps => h.get? a = some { cls := .none, data := .fields ps }
  | .met f x => h.get? a = some (PySem.W.methodObj (.ref f) (.ref x))
  | .ext φ => φ h ∧ (∃ o, h.get? a = some o) ∧ ∀ h1 h2 : Heap, φ h1 → (∀ o, h1.get? a = some o → h2.get? a = some o) → φ h2
def HOk (H : Hp) (h : Heap) : Prop := ∀ a o, H a = some o → ObjOk P w H h a o
end

section
variable {P : Program} {w : World} {H H' : Hp} {h h' : Heap} {a : Addr} {o : HO}
theorem ObjOk.lt (x : ObjOk P w H h a o) : a < h.objs.size := by
  cases o with
  | lst xs => obtain ⟨_, _, _, _, e⟩ := x; exact Heap.lt_size e
  | tup xs => obtain ⟨_, _, _, p⟩ := x; exact p.lt
  | dK kvs => obtain ⟨_, _, _, _, o, _, _, e, _⟩ := x; exact Heap.lt_size e
  | dT kvs => obtain ⟨_, _, _, _, o, _, _, e, _⟩ := x; exact Heap.lt_size e
  | set S n => obtain ⟨o, _, _, _, e, _⟩ := x; exact Heap.lt_size e
  | ins C dx fs => obtain ⟨_, _, _, e, _⟩ := x; exact Heap.lt_size e
  | own y => obtain ⟨_, e⟩ := x; exact Heap.lt_size e
  | xd fs => obtain ⟨_, ⟨_, _, _, e, _⟩, _⟩ := x; exact Heap.lt_size e
  | rng lo hi => obtain ⟨_, _, _, e⟩ := x; exact Heap.lt_size e
  | frz ob u => obtain ⟨e, _⟩ := x; exact Heap.lt_size e
  | tbl ps => exact Heap.lt_size (show h.get? a = some _ from x)
  | met f y => exact Heap.lt_size (show h.get? a = some _ from x)
  | ext φ => obtain ⟨_, ⟨_, e⟩, _⟩ := x; exact Heap.lt_size e
theorem Paired.mapP {α β : Type} {F G : α → β → Prop} : ∀ {l₁ : List α} {l₂ : List β}, Paired F l₁ l₂ → (∀ a b, F a b → G a b) → Paired G l₁ l₂
  | _, _, .nil, _ => .nil
  | _, _, .cons r t, f => .cons (f _ _ r) (Paired.mapP t f)
theorem ObjOk.stay (x : ObjOk P w H h a o) (k : ∀ b u, (b = a ∨ H b = some (.own a)) → h.get? b = some u → h'.get? b = some u)
    (ho : ∀ b, H b = some (.own a) → H' b = some (.own a)) (ht : ∀ b xs, H b = some (.tup xs) → H' b = some (.tup xs)) : ObjOk P w H' h' a o := by
  induction o with
  | lst xs => obtain ⟨z, its, n, r, e⟩ := x; exact ⟨z, its, n, r, k _ _ (.inl rfl) e⟩
  | tup xs => obtain ⟨z, its, r, ob, e, c⟩ := x; exact ⟨z, its, r, ob, k _ _ (.inl rfl) e, c⟩
  | dK kvs => obtain ⟨z, y, vs, r, ob, es, ep, e, c⟩ := x; exact ⟨z, y, vs, r, ob, es, ep, k _ _ (.inl rfl) e, c⟩
  | dT kvs =>
    obtain ⟨z, y, xs, r, ob, es, ep, e, c⟩ := x
    exact ⟨z, y, xs, Paired.mapP r fun p q z => ⟨z.1, ht _ _ z.2.1, z.2.2⟩, ob, es, ep, k _ _ (.inl rfl) e, c⟩
  | set S n => obtain ⟨ob, es, ep, t, e, c⟩ := x; exact ⟨ob, es, ep, t, k _ _ (.inl rfl) e, c⟩
  | ins C dx fs =>
    obtain ⟨d, z, ne, e, mA, ⟨od, es, ep, e2, c⟩, r⟩ := x
    exact ⟨ho _ d, z, ne, k _ _ (.inl rfl) e, mA, ⟨od, es, ep, k _ _ (.inr d) e2, c⟩, r⟩
  | own y => obtain ⟨ob, e⟩ := x; exact ⟨ob, k _ _ (.inl rfl) e⟩
  | xd fs => obtain ⟨mA, ⟨od, es, ep, e, c⟩, r⟩ := x; exact ⟨mA, ⟨od, es, ep, k _ _ (.inl rfl) e, c⟩, r⟩
  | rng lo hi => obtain ⟨t, u, v, e⟩ := x; exact ⟨t, u, v, k _ _ (.inl rfl) e⟩
  | frz ob u ih => obtain ⟨e, q⟩ := x; exact ⟨k _ _ (.inl rfl) e, ih q⟩
  | tbl ps =>
    have e : h.get? a = some { cls := .none, data := .fields ps } := x
    show h'.get? a = some { cls := .none, data := .fields ps }
    exact k a _ (.inl rfl) e
  | met f y =>
    have e : h.get? a = some (PySem.W.methodObj (.ref f) (.ref y)) := x
    show h'.get? a = some (PySem.W.methodObj (.ref f) (.ref y))
    exact k a _ (.inl rfl) e
  | ext φ => obtain ⟨p, ⟨o, e⟩, st⟩ := x; exact ⟨st _ _ p fun o q => k _ _ (.inl rfl) q, ⟨o, k _ _ (.inl rfl) e⟩, st⟩
theorem HOk.lt (x : HOk P w H h) (e : H a = some o) : a < h.objs.size := (x a o e).lt
theorem HOk.fresh (x : HOk P w H h) (e : h.objs.size ≤ a) : H a = none := by
  cases q : H a with
  | none => rfl
  | some u => exact absurd (Nat.lt_of_lt_of_le (x.lt q) e) (Nat.lt_irrefl _)
theorem HOk.kept (x : HOk P w H h) (k : ∀ b u, h.get? b = some u → h'.get? b = some u) : HOk P w H h' := fun a o e =>
  (x a o e).stay (fun b u _ q => k b u q) (fun _ q => q) fun _ _ q => q
theorem HOk.laid (x : HOk P w H h) (k : ∀ b u, h.get? b = some u → h'.get? b = some u) (hp : h.objs.size ≤ a) (new : ObjOk P w (upd H a o) h' a o) : HOk P w (upd H a o) h' := fun b u e => by
  have hn := x.fresh hp
  by_cases hb : b = a
  · subst hb; rw [upd_same] at e; cases e; exact new
  · rw [upd_ne hb] at e
    exact (x b u e).stay (fun c v _ q => k c v q) (fun c q => by rw [upd_ne (ne_of_none q hn)]; exact q) fun c xs q => by rw [upd_ne (ne_of_none q hn)]; exact q
end

def Rd (H : Hp) (a : Addr) (u : HO) : Prop := H a = some u ∨ ∃ o, H a = some (.frz o u)
theorem Rd.ok {P : Program} {w : World} {H : Hp} {h : Heap} {a : Addr} {u : HO} (r : Rd H a u) (x : HOk P w H h) : ObjOk P w H h a u := by
  rcases r with r | ⟨o, r⟩
  · exact x a u r
  · obtain ⟨_, q⟩ := x a _ r
    exact q
def Mut : Option HO → Prop
  | some (.lst _) => True
  | some (.dK _) => True
  | some (.dT _) => True
  | some (.set _ _) => True
  | some (.ins _ _ _) => True
  | some (.ext _) => True
  | _ => False
section
variable {P : Program} {w : World} {H : Hp} {h h' : Heap} {x e : Addr} {o' : HO}
theorem HOk.write (ok : HOk P w H h) (mu : Mut (H x)) (he : e = x ∨ H e = some (.own x)) (k : ∀ b u, b ≠ e → h.get? b = some u → h'.get? b = some u) (heo : ∃ u, h'.get? e = some u)
    (new : ObjOk P w (upd H x o') h' x o') : HOk P w (upd H x o') h' := fun b u q => by
  have nown : ∀ c y, H c = some (.own y) → c ≠ x := fun c y r z => by subst z; rw [r] at mu; exact mu
  have ntup : ∀ c xs, H c = some (.tup xs) → c ≠ x := fun c xs r z => by subst z; rw [r] at mu; exact mu
  by_cases hb : b = x
  · subst hb; rw [upd_same] at q; cases q; exact new
  · rw [upd_ne hb] at q
    by_cases hbe : b = e
    · have q' : H b = some (.own x) := by
        rcases he with z | z
        · exact absurd (hbe.trans z) hb
        · rw [hbe]; exact z
      rw [q] at q'; cases q'
      obtain ⟨v, hv⟩ := heo
      exact ⟨v, by rw [hbe]; exact hv⟩
    · refine (ok b u q).stay (fun c v hc r => k c v ?_ r) (fun c r => by rw [upd_ne (nown c b r)]; exact r) fun c xs r => by rw [upd_ne (ntup c xs r)]; exact r
      rcases hc with rfl | hc
      · exact hbe
      · rintro rfl
        rcases he with z | z
        · exact nown c b hc z
        · rw [hc] at z; cases z; exact hb rfl
end

structure Un (fs ex : List Addr) (H H' : Hp) (h h' : Heap) : Prop where
  keep : ∀ b o, h.get? b = some o → H b = none → b ∉ fs → b ∉ ex → h'.get? b = some o
  slot : ∀ b o, h.get? b = some o → H b = none → b ∈ fs → b ∉ ex → ∃ sl, h'.get? b = some { o with slots := sl }
  free : ∀ b o, h.get? b = some o → H b = none → b ∉ ex → H' b = none
  there : ∀ b o, h.get? b = some o → b ∉ ex → ∃ o', h'.get? b = some o'
  tups : ∀ b xs, H b = some (.tup xs) → H' b = some (.tup xs)
  frzs : ∀ b o u, H b = some (.frz o u) → H' b = some (.frz o u)
  tbls : ∀ b ps, H b = some (.tbl ps) → ∃ more, H' b = some (.tbl (ps ++ more))
section
variable {fs fs' ex ex' : List Addr} {H H1 H2 : Hp} {h h1 h2 h' : Heap} {a x e : Addr} {o : HO}
theorem Un.any (u : Un fs ex H H1 h h1) {b : Addr} {ob : Obj} (q : h.get? b = some ob) (n : H b = none) (hx : b ∉ ex) : ∃ sl, h1.get? b = some { ob with slots := sl } := by
  by_cases hb : b ∈ fs
  · exact u.slot b ob q n hb hx
  · exact ⟨ob.slots, u.keep b ob q n hb hx⟩
theorem Un.kept (k : ∀ b u, h.get? b = some u → h'.get? b = some u) : Un fs ex H H h h' :=
  ⟨fun b ob q _ _ _ => k b ob q, fun b ob q _ _ _ => ⟨ob.slots, k b ob q⟩, fun _ _ _ n _ => n, fun b ob q _ => ⟨ob, k b ob q⟩, fun _ _ q => q, fun _ _ _ q => q, fun _ ps q => ⟨#[], by rw [q]; simp⟩⟩
theorem Un.refl : Un fs ex H H h h := Un.kept fun _ _ q => q
theorem Un.laid (k : ∀ b u, h.get? b = some u → h'.get? b = some u) (hp : h.objs.size ≤ a) (hn : H a = none) : Un fs ex H (upd H a o) h h' where
  keep := fun b u q _ _ _ => k b u q
  slot := fun b u q _ _ _ => ⟨u.slots, k b u q⟩
  free := fun b u q n _ => by rw [upd_ne (Nat.ne_of_lt (Nat.lt_of_lt_of_le (Heap.lt_size q) hp))]; exact n
  there := fun b u q _ => ⟨u, k b u q⟩
  tups := fun b xs q => by rw [upd_ne (ne_of_none q hn)]; exact q
  frzs := fun b u xs q => by rw [upd_ne (ne_of_none q hn)]; exact q
  tbls := fun b ps q => ⟨#[], by rw [upd_ne (ne_of_none q hn), q]; simp⟩
theorem Un.write (mu : Mut (H x)) (he : e = x ∨ H e = some (.own x)) (k : ∀ b u, b ≠ e → h.get? b = some u → h'.get? b = some u) (heo : ∃ u, h'.get? e = some u) : Un fs ex H (upd H x o) h h' := by
  have hx : ∀ b, H b = none → b ≠ x := fun b n z => by subst z; rw [n] at mu; exact mu
  have hb : ∀ b, H b = none → b ≠ e := fun b n z => by
    subst z
    rcases he with r | r
    · exact hx b n r
    · rw [n] at r; cases r
  have hm : ∀ b u, H b = some u → ¬ Mut (some u) → b ≠ x := fun b u q nm z => by subst z; rw [q] at mu; exact nm mu
  refine ⟨fun b u q n _ _ => k b u (hb b n) q, fun b u q n _ _ => ⟨u.slots, k b u (hb b n) q⟩, fun b u q n _ => by rw [upd_ne (hx b n)]; exact n, fun b u q _ => ?_,
    fun b xs q => by rw [upd_ne (hm b _ q fun z => z)]; exact q, fun b u xs q => by rw [upd_ne (hm b _ q fun z => z)]; exact q, fun b ps q => ⟨#[], by rw [upd_ne (hm b _ q fun z => z), q]; simp⟩⟩
  by_cases hbe : b = e
  · subst hbe; exact heo
  · exact ⟨u, k b u hbe q⟩
end

def trk (h : Heap) (H : Hp) : List Addr := (List.range h.objs.size).filter fun a => (H a).isSome
def hidT (h : Heap) (H : Hp) : Heap := PySem.W.hideAll h (trk h H)
theorem hidT_size (h : Heap) (H : Hp) : (hidT h H).objs.size = h.objs.size := PySem.W.hideAll_size _ _
theorem hidT_get {h : Heap} {H : Hp} {b : Addr} {o : Obj} (e : h.get? b = some o) (n : H b = none) : (hidT h H).get? b = some o :=
  PySem.W.hideAll_get _ e fun hm => by
    have q : (H b).isSome = true := (List.mem_filter.mp hm).2
    rw [n] at q; simp at q
theorem of_hidT {h : Heap} {H : Hp} {b : Addr} {o : Obj} (e : (hidT h H).get? b = some o) : h.get? b = some o ∧ H b = none := by
  have e' : h.get? b = some o := PySem.W.of_hideAll (trk h H) e
  refine ⟨e', ?_⟩
  cases q : H b with
  | none => rfl
  | some x =>
    have hm : b ∈ trk h H := List.mem_filter.mpr ⟨List.mem_range.mpr (Heap.lt_size e'), by simp [q]⟩
    have z : (hidT h H).get? b = none := PySem.W.hideAll_none (trk h H) hm
    rw [z] at e; cases e

def allNews (g h : Heap) (L : Addr) : List (Addr × Obj) := (List.range h.objs.size).filterMap fun a => if a = L ∨ (g.get? a).isSome = true then none else (h.get? a).map fun o => (a, o)
def rest (g h : Heap) (L d : Addr) : List (Addr × Obj) := (allNews g h L).filter fun p => decide (p.1 ≠ d)
end L2

namespace L2
open PySem PySem.Spec PyProof.Rows

structure Mod (K : PySem.W.Frag) (mg : Str → Option Value) (base : Heap) : Prop where
  kin : K.In base
  glob : base.Ns mainGlobals mg
  blt : ∃ mb, base.Ns builtinsNs mb ∧ ∀ x : Str, x ≠ "__name__" → mb x = bootBuiltins x
  nolimit : base.NoLimit

structure Cx where
  prog : Program
  w : World
  K : PySem.W.Frag
  mg : Str → Option Value
  base : Heap
  A : Around
  N : List Str
  s₀ : Shared
  H₀ : Hp
  env : Env
  outer : List Env
  stack : List Env
  ex : List Addr
  fn : Str → Bool
  calm : Bool
  pn : List (Addr × Obj)
  xe : Value → Shared → Prop
def frs (l : List Env) : List Addr := l.filterMap (·.frame)
abbrev Cx.fs (X : Cx) : List Addr := frs X.outer

def Vis (sc : Scope) (x : Str) : Prop := sc.names.lookup x = some .local ∨ sc.names.lookup x = some .cell ∨ sc.names.lookup x = some .free
def Loc (sc : Scope) (x : Str) : Prop := sc.names.lookup x = some .local ∨ sc.names.lookup x = some .cell
def Look (env : Env) (h : Heap) (m : Str → Option Value) (x : Str) (u : Value) : Prop :=
  (env.kindOf x = some .local ∧ m x = some u) ∨ ((env.kindOf x = some .cell ∨ env.kindOf x = some .free) ∧ ∃ c, env.cells.lookup x = some c ∧ h.IsCell c (some u))

structure Cx.Ok (X : Cx) : Prop where
  mod : Mod X.K X.mg X.base
  kind : X.env.scope.kind = .function
  glob : X.env.globals = mainGlobals
  blt : X.env.builtins = builtinsNs
  above : X.s₀.heap.objs.size ≤ X.env.locals
  inj : ∀ x y c, X.env.cells.lookup x = some c → X.env.cells.lookup y = some c → x = y
  has : ∀ x, (X.env.kindOf x = some .cell ∨ X.env.kindOf x = some .free) → ∃ c, X.env.cells.lookup x = some c
  cab : ∀ x c, X.fn x = true → X.env.cells.lookup x = some c → X.s₀.heap.objs.size ≤ c
  hd : X.calm = true → X.A.handled = none
  frames : X.A.frames = some X.stack
  stk : X.stack = X.outer ∨ (X.stack = X.env :: X.outer ∧ X.env.frame = some X.env.locals)
  exf : ∀ b ∈ X.ex, b ≠ X.env.locals ∧ ∀ x c, X.env.cells.lookup x = some c → c ≠ b
  bs : ∀ b o, X.base.get? b = some o → X.s₀.heap.get? b = some o ∧ X.H₀ b = none
  bsz : X.base.objs.size ≤ X.s₀.heap.objs.size
  noex : ∀ b o, X.base.get? b = some o → b ∉ X.ex
  exfs : ∀ b ∈ X.ex, b ∉ X.fs
  funs : X.s₀.heap.FunFrames X.base X.outer
  frf : ∀ b ∈ X.fs, X.H₀ b = none

structure Inv (X : Cx) (pins : List (Addr × Obj)) (σ : List (Option V)) (H : Hp) (s : Shared) : Prop where
  ok : X.Ok
  os : s.os = X.s₀.os
  bare : AllBare s.gens
  base : Un X.fs X.ex X.H₀ H X.s₀.heap s.heap
  loc : ∃ m, s.heap.Ns X.env.locals m ∧ ∀ (i : Nat) (x : Str) (v : V), X.N[i]? = some x → σ[i]? = some (some v) → Vis X.env.scope x → ∃ u, RelV v u ∧ Look X.env s.heap m x u
  cell : ∀ x c, X.env.cells.lookup x = some c → ∃ v, s.heap.IsCell c v
  free : H X.env.locals = none
  freeC : ∀ x c, X.env.cells.lookup x = some c → H c = none
  pin : ∀ p ∈ X.pn ++ pins, s.heap.get? p.1 = some p.2 ∧ H p.1 = none ∧ p.1 ≠ X.env.locals ∧ p.1 ∉ X.fs ∧ ∀ v, p.2.data ≠ .cell v
  hok : HOk X.prog X.w H s.heap
  len : σ.length = X.N.length

section
variable {X : Cx} {pins : List (Addr × Obj)} {σ : List (Option V)} {H H' : Hp} {s : Shared} {h' : Heap}

theorem Cx.Ok.nofr (ok : X.Ok) {b : Addr} {o : Obj} (e : X.base.get? b = some o) : b ∉ X.fs := fun hb => by
  have := (ok.funs.mem hb).1
  rw [e] at this; cases this
theorem Inv.bs (I : Inv X pins σ H s) : ∀ b o, X.base.get? b = some o → s.heap.get? b = some o ∧ H b = none := fun b o e =>
  ⟨I.base.keep b o (I.ok.bs b o e).1 (I.ok.bs b o e).2 (I.ok.nofr e) (I.ok.noex b o e), I.base.free b o (I.ok.bs b o e).1 (I.ok.bs b o e).2 (I.ok.noex b o e)⟩
theorem Inv.bk (I : Inv X pins σ H s) : ∀ b o, X.base.get? b = some o → s.heap.get? b = some o := fun b o e => (I.bs b o e).1
theorem Inv.mod (I : Inv X pins σ H s) : Mod X.K X.mg X.base := I.ok.mod
theorem Inv.kIn (I : Inv X pins σ H s) : X.K.In s.heap := I.ok.mod.kin.keeps I.bk
theorem Inv.lt (I : Inv X pins σ H s) : X.env.locals < s.heap.objs.size := let ⟨_, hn, _⟩ := I.loc; hn.lt
theorem Inv.sz (I : Inv X pins σ H s) : X.s₀.heap.objs.size ≤ s.heap.objs.size := Nat.le_trans I.ok.above (Nat.le_of_lt I.lt)
theorem Inv.nofs (I : Inv X pins σ H s) {a : Addr} (h : s.heap.objs.size ≤ a) : a ∉ X.fs := fun hb => by
  obtain ⟨_, o, ho, _⟩ := I.ok.funs.mem hb
  exact absurd (Nat.lt_of_lt_of_le (Heap.lt_size ho) (Nat.le_trans I.sz h)) (Nat.lt_irrefl _)
theorem Inv.cne (I : Inv X pins σ H s) : ∀ x c, X.env.cells.lookup x = some c → c ≠ X.env.locals := fun x c e z => by
  obtain ⟨v, o, ho, hd⟩ := I.cell x c e
  obtain ⟨m, ⟨o', es, ep, ho', hd', _⟩, _⟩ := I.loc
  rw [z, ho'] at ho; cases ho; rw [hd'] at hd; cases hd
theorem Inv.funs (I : Inv X pins σ H s) : s.heap.FunFrames X.base X.outer := by
  have all : ∀ (l : List Env), (∀ b ∈ frs l, b ∈ X.fs) → X.s₀.heap.FunFrames X.base l → s.heap.FunFrames X.base l := by
    intro l
    induction l with
    | nil => intro _ _; trivial
    | cons env r ih =>
      intro hs hl
      obtain ⟨hk, ⟨L, o, hf, hn, ho, hd⟩, hr⟩ := hl
      have hL : L ∈ X.fs := hs L (by unfold frs; rw [List.filterMap_cons, hf]; exact List.mem_cons_self)
      obtain ⟨sl, e⟩ := I.base.slot L o ho (I.ok.frf L hL) hL fun z => I.ok.exfs L z hL
      exact ⟨hk, ⟨L, _, hf, hn, e, hd⟩, ih (fun b hb => hs b (by unfold frs; rw [List.filterMap_cons, hf]; exact List.mem_cons_of_mem _ hb)) hr⟩
  exact all X.outer (fun _ hb => hb) I.ok.funs

theorem Inv.stack (I : Inv X pins σ H s) : s.heap.FunFrames X.base X.stack := by
  rcases I.ok.stk with e | ⟨e, hf⟩
  · rw [e]; exact I.funs
  · rw [e]
    obtain ⟨m, hn, _⟩ := I.loc
    refine .cons (by rw [I.ok.kind]; decide) hf hn ?_ I.funs
    exact Heap.get?_none_of_le (Nat.le_trans I.ok.bsz I.ok.above)
theorem Inv.stkSub (I : Inv X pins σ H s) : ∀ b ∈ frs X.stack, b ∈ X.env.locals :: X.fs := fun b hb => by
  rcases I.ok.stk with e | ⟨e, hf⟩
  · rw [e] at hb; exact List.mem_cons_of_mem _ hb
  · rw [e] at hb
    unfold frs at hb
    rw [List.filterMap_cons, hf] at hb
    exact hb
theorem Inv.stkFree (I : Inv X pins σ H s) : ∀ b ∈ frs X.stack, H b = none := fun b hb => by
  rcases List.mem_cons.mp (I.stkSub b hb) with e | hb
  · rw [e]; exact I.free
  · obtain ⟨_, o, ho, _⟩ := I.ok.funs.mem hb
    exact I.base.free b o ho (I.ok.frf b hb) fun z => I.ok.exfs b z hb

theorem Inv.step {g' : Array GenState} {t' : Nat} {d' : Drawn} {ch : List Addr} (I : Inv X pins σ H s)
    (hch : ∀ b ∈ ch, (b ∈ X.ex ∨ X.s₀.heap.objs.size ≤ b) ∧ b ≠ X.env.locals ∧ (∀ x c, X.env.cells.lookup x = some c → c ≠ b) ∧ ∀ p ∈ X.pn ++ pins, p.1 ≠ b)
    (keep : ∀ b o, b ≠ X.env.locals → b ∉ X.fs → b ∉ ch → s.heap.get? b = some o → H b = none → h'.get? b = some o)
    (slot : ∀ b o, b ≠ X.env.locals → b ∈ X.fs → b ∉ ch → s.heap.get? b = some o → H b = none → ∃ sl, h'.get? b = some { o with slots := sl }) (free : ∀ b o, b ∉ ch → s.heap.get? b = some o → H b = none → H' b = none)
    (there : ∀ b o, b ∉ ch → s.heap.get? b = some o → ∃ o', h'.get? b = some o')
    (tups : ∀ b xs, H b = some (.tup xs) → H' b = some (.tup xs)) (frzs : ∀ b o u, H b = some (.frz o u) → H' b = some (.frz o u)) (tbls : ∀ b ps, H b = some (.tbl ps) → ∃ more, H' b = some (.tbl (ps ++ more)))
    (ns : ∀ m, s.heap.Ns X.env.locals m → h'.Ns X.env.locals m) (hok : HOk X.prog X.w H' h') (hg : AllBare g') :
    Inv X pins σ H' { s with heap := h', gens := g', drawn := d', toks := t' } := by
  have neL : ∀ b o, X.s₀.heap.get? b = some o → b ≠ X.env.locals := fun b o e => Nat.ne_of_lt (Nat.lt_of_lt_of_le (Heap.lt_size e) I.ok.above)
  have neC : ∀ b o, X.s₀.heap.get? b = some o → b ∉ X.ex → b ∉ ch := fun b o e hx hb => by
    rcases (hch b hb).1 with z | z
    · exact hx z
    · exact absurd (Nat.lt_of_lt_of_le (Heap.lt_size e) z) (Nat.lt_irrefl _)
  have cellK : ∀ x c, X.env.cells.lookup x = some c → ∀ v, s.heap.IsCell c v → h'.IsCell c v := fun x c e v ⟨o, ho, hd⟩ => by
    have nch : c ∉ ch := fun z => (hch c z).2.2.1 x c e rfl
    by_cases hc : c ∈ X.fs
    · obtain ⟨sl, q⟩ := slot c o (I.cne x c e) hc nch ho (I.freeC x c e)
      exact ⟨_, q, hd⟩
    · exact ⟨o, keep c o (I.cne x c e) hc nch ho (I.freeC x c e), hd⟩
  refine ⟨I.ok, I.os, hg, ⟨fun b o e n hb hx => ?_, fun b o e n hb hx => ?_, fun b o e n hx => ?_, fun b o e hx => ?_, fun b xs e => tups b xs (I.base.tups b xs e), fun b o xs e => frzs b o xs (I.base.frzs b o xs e), fun b ps e => ?_⟩, ?_, fun x c e => ?_, ?_, fun x c e => ?_, fun p hp => ?_, hok, I.len⟩
  · exact keep b o (neL b o e) hb (neC b o e hx) (I.base.keep b o e n hb hx) (I.base.free b o e n hx)
  · obtain ⟨sl, e1⟩ := I.base.slot b o e n hb hx
    obtain ⟨sl', e2⟩ := slot b _ (neL b o e) hb (neC b o e hx) e1 (I.base.free b o e n hx)
    exact ⟨sl', e2⟩
  · obtain ⟨o', e1⟩ := I.base.there b o e hx
    exact free b o' (neC b o e hx) e1 (I.base.free b o e n hx)
  · obtain ⟨o', e1⟩ := I.base.there b o e hx
    exact there b o' (neC b o e hx) e1
  · obtain ⟨m1, e1⟩ := I.base.tbls b ps e
    obtain ⟨m2, e2⟩ := tbls b _ e1
    exact ⟨m1 ++ m2, by rw [e2, Array.append_assoc]⟩
  · obtain ⟨m, hn, hl⟩ := I.loc
    refine ⟨m, ns m hn, fun i x v e1 e2 e3 => ?_⟩
    obtain ⟨u, r, l⟩ := hl i x v e1 e2 e3
    refine ⟨u, r, ?_⟩
    rcases l with l | ⟨k, c, e, z⟩
    · exact .inl l
    · exact .inr ⟨k, c, e, cellK x c e _ z⟩
  · obtain ⟨v, z⟩ := I.cell x c e
    exact ⟨v, cellK x c e v z⟩
  · obtain ⟨m, ⟨o, _, _, ho, _⟩, _⟩ := I.loc
    exact free _ o (fun z => (hch _ z).2.1 rfl) ho I.free
  · obtain ⟨v, o, ho, hd⟩ := I.cell x c e
    exact free c o (fun z => (hch c z).2.2.1 x c e rfl) ho (I.freeC x c e)
  · obtain ⟨e, n, ne, nf, d⟩ := I.pin p hp
    have nch : p.1 ∉ ch := fun z => (hch p.1 z).2.2.2 p hp rfl
    exact ⟨keep p.1 p.2 ne nf nch e n, free p.1 p.2 nch e n, ne, nf, d⟩
theorem Inv.un {t' : Nat} (I : Inv X pins σ H s) (u : Un X.fs [] H H' s.heap h') (hok : HOk X.prog X.w H' h') : Inv X pins σ H' { s with heap := h', toks := t' } := by
  obtain ⟨m, ⟨o, es, ep, ho, r⟩, _⟩ := id I.loc
  obtain ⟨sl, hL⟩ := u.any ho I.free (by simp)
  exact I.step (g' := s.gens) (d' := s.drawn) (ch := []) (fun _ z => nomatch z) (fun b o _ hb _ e n => u.keep b o e n hb (by simp)) (fun b o _ hb _ e n => u.slot b o e n hb (by simp)) (fun b o _ e n => u.free b o e n (by simp)) (fun b o _ e => u.there b o e (by simp)) u.tups u.frzs u.tbls (fun m' hm => by
    obtain ⟨o', es', ep', ho', r'⟩ := hm
    rw [ho] at ho'; cases ho'
    exact ⟨_, es', ep', hL, r'⟩) hok I.bare
theorem Inv.call {g' : Array GenState} {t' : Nat} {d' : Drawn} {ch : List Addr} (I : Inv X pins σ H s) (u : Un (frs X.stack) ch H H' s.heap h') (hok : HOk X.prog X.w H' h') (hg : AllBare g')
    (hch : ∀ b ∈ ch, (b ∈ X.ex ∨ X.s₀.heap.objs.size ≤ b) ∧ b ≠ X.env.locals ∧ (∀ x c, X.env.cells.lookup x = some c → c ≠ b) ∧ ∀ p ∈ X.pn ++ pins, p.1 ≠ b) :
    Inv X pins σ H' { s with heap := h', gens := g', drawn := d', toks := t' } := by
  obtain ⟨m, ⟨o, es, ep, ho, r⟩, _⟩ := id I.loc
  obtain ⟨sl, hL⟩ := u.any ho I.free fun z => (hch _ z).2.1 rfl
  exact I.step (ch := ch) hch (fun b o hL hb hc e n => u.keep b o e n (fun z => (List.mem_cons.mp (I.stkSub b z)).elim hL hb) hc) (fun b o _ _ hc e n => u.any e n hc) (fun b o hc e n => u.free b o e n hc) (fun b o hc e => u.there b o e hc) u.tups u.frzs u.tbls (fun m' hm => by
    obtain ⟨o', es', ep', ho', r'⟩ := hm
    rw [ho] at ho'; cases ho'
    exact ⟨_, es', ep', hL, r'⟩) hok hg
theorem Inv.turned {t' : Nat} {it : Addr} (I : Inv X pins σ H s) (k : ∀ b o, b ≠ it → s.heap.get? b = some o → h'.get? b = some o) (hn : H it = none) (hL : it ≠ X.env.locals)
    (h1 : it ∈ X.ex ∨ X.s₀.heap.objs.size ≤ it) (h2 : ∀ x c, X.env.cells.lookup x = some c → c ≠ it) (h3 : ∀ p ∈ X.pn ++ pins, p.1 ≠ it) : Inv X pins σ H { s with heap := h', toks := t' } := by
  have nit : ∀ b u, H b = some u → b ≠ it := fun b u e z => by rw [z, hn] at e; cases e
  refine I.step (g' := s.gens) (d' := s.drawn) (ch := [it]) (fun b hb => ?_) (fun b o _ _ hc e _ => k b o (fun z => hc (by simp [z])) e) (fun b o _ _ hc e _ => ⟨o.slots, k b o (fun z => hc (by simp [z])) e⟩) (fun _ _ _ _ n => n)
    (fun b o hc e => ⟨o, k b o (fun z => hc (by simp [z])) e⟩) (fun _ _ e => e) (fun _ _ _ e => e) (fun b ps e => ⟨#[], by rw [e]; simp⟩) (fun m hm => ?_) (fun b u e => ?_) I.bare
  · have e : b = it := by simpa using hb
    subst e
    exact ⟨h1, hL, h2, h3⟩
  · obtain ⟨o, es, ep, ho, r⟩ := hm
    exact ⟨o, es, ep, k _ o (Ne.symm hL) ho, r⟩
  · refine (I.hok b u e).stay (fun c v hc q => k c v ?_ q) (fun _ q => q) fun _ _ q => q
    rcases hc with z | z
    · rw [z]; exact nit b u e
    · exact nit c _ z
theorem Inv.tok (I : Inv X pins σ H s) (t : Nat) : Inv X pins σ H { s with toks := t } := I.un (h' := s.heap) (t' := t) Un.refl I.hok
theorem Inv.kept {t' : Nat} (I : Inv X pins σ H s) (k : ∀ b u, s.heap.get? b = some u → h'.get? b = some u) : Inv X pins σ H { s with heap := h', toks := t' } := I.un (Un.kept k) (I.hok.kept k)
theorem Inv.laid {a : Addr} {o : HO} {t' : Nat} (I : Inv X pins σ H s) (k : ∀ b u, s.heap.get? b = some u → h'.get? b = some u) (hp : s.heap.objs.size ≤ a) (new : ObjOk X.prog X.w (upd H a o) h' a o) :
    Inv X pins σ (upd H a o) { s with heap := h', toks := t' } := I.un (Un.laid k hp (I.hok.fresh hp)) (I.hok.laid k hp new)
theorem Inv.write {x e : Addr} {o : HO} {t' : Nat} (I : Inv X pins σ H s) (mu : Mut (H x)) (he : e = x ∨ H e = some (.own x)) (k : ∀ b u, b ≠ e → s.heap.get? b = some u → h'.get? b = some u) (heo : ∃ u, h'.get? e = some u)
    (new : ObjOk X.prog X.w (upd H x o) h' x o) : Inv X pins σ (upd H x o) { s with heap := h', toks := t' } := I.un (Un.write mu he k heo) (I.hok.write mu he k heo new)
theorem Inv.pins_of {pins' : List (Addr × Obj)} (I : Inv X pins σ H s) (h : ∀ p ∈ pins', s.heap.get? p.1 = some p.2 ∧ H p.1 = none ∧ p.1 ≠ X.env.locals ∧ p.1 ∉ X.fs ∧ ∀ v, p.2.data ≠ .cell v) : Inv X pins' σ H s :=
  ⟨I.ok, I.os, I.bare, I.base, I.loc, I.cell, I.free, I.freeC, fun p hp => (List.mem_append.mp hp).elim (fun z => I.pin p (List.mem_append_left _ z)) (h p), I.hok, I.len⟩

theorem nodup_ix {N : List Str} (hN : N.Nodup) {i j : Nat} {x : Str} (a : N[i]? = some x) (b : N[j]? = some x) : i = j := by
  obtain ⟨h1, e1⟩ := List.getElem?_eq_some_iff.mp a
  obtain ⟨h2, e2⟩ := List.getElem?_eq_some_iff.mp b
  exact (List.getElem_inj hN).mp (e1.trans e2.symm)

theorem store_ok2 {M : Model} {A : Around} {E : Value → Shared → Prop} {i : Nat} {x : Str} {v : V} {u : Value} {Q : Unit → Shared → Prop} (I : Inv X pins σ H s) (hN : X.N.Nodup) (hi : X.N[i]? = some x) (hx : Loc X.env.scope x) (r : RelV v u)
    (h : ∀ s', Inv X pins (σ.set i (some v)) H s' → (∃ a, Heap.SameBut a s.heap s'.heap ∧ (a = X.env.locals ∨ X.env.cells.lookup x = some a)) → Q () s') (hf : X.fn x = true ∨ X.env.scope.names.lookup x = some .local := by first | exact .inl rfl | exact .inr rfl | assumption) : wpAny M A (storeName X.env x u) Q E s := by
  obtain ⟨m, hn, hl⟩ := id I.loc
  have hcls : (X.env.scope.kind == .class || (X.env.scope.kind == .module && X.env.locals != X.env.globals)) = false := by rw [I.ok.kind]; rfl
  have hiσ : i < σ.length := by rw [I.len]; exact (List.getElem?_eq_some_iff.mp hi).1
  have cne := I.cne
  have tracked : ∀ {a : Addr} {h' : Heap}, (∃ o, s.heap.get? a = some o ∧ H a = none) → Heap.SameBut a s.heap h' → HOk X.prog X.w H h' := fun {a h'} ha hs b ob e => by
    obtain ⟨_, _, hfree⟩ := ha
    refine (I.hok b ob e).stay (fun c w' hc q => (hs.2 c ?_).trans q) (fun _ q => q) fun _ _ q => q
    rintro rfl
    rcases hc with rfl | hc
    · rw [hfree] at e; cases e
    · rw [hfree] at hc; cases hc
  rcases hx with hk | hk
  · refine wpAny_storeName_local hk hn (fun h' hn' hs => ?_) hcls
    obtain ⟨oL, _, _, hoL, _⟩ := id hn
    refine h _ ⟨I.ok, I.os, I.bare, ⟨fun b o e n hb hx => ?_, fun b o e n hb hx => ?_, I.base.free, fun b o e hx => ?_, I.base.tups, I.base.frzs, I.base.tbls⟩, ⟨_, hn', fun j y v' e1 e2 e3 => ?_⟩, fun y c e => ?_, I.free, I.freeC, fun p hp => ?_, tracked ⟨oL, hoL, I.free⟩ hs, by simpa using I.len⟩ ⟨_, hs, .inl rfl⟩
    · exact (hs.2 b (Nat.ne_of_lt (Nat.lt_of_lt_of_le (Heap.lt_size e) I.ok.above))).trans (I.base.keep b o e n hb hx)
    · obtain ⟨sl, e1⟩ := I.base.slot b o e n hb hx
      exact ⟨sl, (hs.2 b (Nat.ne_of_lt (Nat.lt_of_lt_of_le (Heap.lt_size e) I.ok.above))).trans e1⟩
    · obtain ⟨o', e1⟩ := I.base.there b o e hx
      exact ⟨o', (hs.2 b (Nat.ne_of_lt (Nat.lt_of_lt_of_le (Heap.lt_size e) I.ok.above))).trans e1⟩
    · by_cases hj : j = i
      · subst hj
        rw [hi] at e1; cases e1
        rw [List.getElem?_set_self hiσ] at e2
        cases e2
        exact ⟨u, r, .inl ⟨hk, by simp⟩⟩
      · rw [List.getElem?_set_ne (Ne.symm hj)] at e2
        obtain ⟨u', r', q⟩ := hl j y v' e1 e2 e3
        refine ⟨u', r', ?_⟩
        rcases q with ⟨k, e⟩ | ⟨k, c, e, z⟩
        · refine .inl ⟨k, ?_⟩
          have : y ≠ x := fun e => hj (nodup_ix hN e1 (e ▸ hi))
          simp [this, e]
        · exact .inr ⟨k, c, e, z.sameBut hs (cne y c e)⟩
    · obtain ⟨w', z⟩ := I.cell y c e
      exact ⟨w', z.sameBut hs (cne y c e)⟩
    · obtain ⟨e, n, ne, nf, d⟩ := I.pin p hp
      exact ⟨(hs.2 p.1 ne).trans e, n, ne, nf, d⟩
  · have hfn : X.fn x = true := by
      rcases hf with z | z
      · exact z
      · rw [z] at hk; cases hk
    obtain ⟨c, hc⟩ := I.ok.has x (.inl hk)
    obtain ⟨w', z⟩ := I.cell x c hc
    refine wpAny_storeName_cell I.ok.kind hk hc z (fun h' hc' hs => ?_)
    obtain ⟨oc, hoc, hocd⟩ := id z
    refine h { s with heap := h' } ⟨I.ok, I.os, I.bare, ⟨fun b o e n hb hx => ?_, fun b o e n hb hx => ?_, I.base.free, fun b o e hx => ?_, I.base.tups, I.base.frzs, I.base.tbls⟩, ⟨m, hn.sameBut hs (Ne.symm (cne x c hc)), fun j y v' e1 e2 e3 => ?_⟩, fun y c' e => ?_, I.free, I.freeC, fun p hp => ?_, tracked ⟨oc, hoc, I.freeC x c hc⟩ hs, by simpa using I.len⟩ ⟨c, hs, .inr hc⟩
    · exact (hs.2 b (Nat.ne_of_lt (Nat.lt_of_lt_of_le (Heap.lt_size e) (I.ok.cab x c hfn hc)))).trans (I.base.keep b o e n hb hx)
    · obtain ⟨sl, e1⟩ := I.base.slot b o e n hb hx
      exact ⟨sl, (hs.2 b (Nat.ne_of_lt (Nat.lt_of_lt_of_le (Heap.lt_size e) (I.ok.cab x c hfn hc)))).trans e1⟩
    · obtain ⟨o', e1⟩ := I.base.there b o e hx
      exact ⟨o', (hs.2 b (Nat.ne_of_lt (Nat.lt_of_lt_of_le (Heap.lt_size e) (I.ok.cab x c hfn hc)))).trans e1⟩
    · by_cases hj : j = i
      · subst hj
        rw [hi] at e1; cases e1
        rw [List.getElem?_set_self hiσ] at e2
        cases e2
        exact ⟨u, r, .inr ⟨.inl hk, c, hc, hc'⟩⟩
      · rw [List.getElem?_set_ne (Ne.symm hj)] at e2
        obtain ⟨u', r', q⟩ := hl j y v' e1 e2 e3
        refine ⟨u', r', ?_⟩
        rcases q with q | ⟨k, c', e, z'⟩
        · exact .inl q
        · refine .inr ⟨k, c', e, z'.sameBut hs ?_⟩
          rintro rfl
          exact hj (nodup_ix hN e1 (I.ok.inj _ _ _ e hc ▸ hi))
    · by_cases hcc : c' = c
      · subst hcc; exact ⟨_, hc'⟩
      · obtain ⟨w2, z2⟩ := I.cell y c' e
        exact ⟨w2, z2.sameBut hs hcc⟩
    · obtain ⟨e, n, ne, nf, d⟩ := I.pin p hp
      refine ⟨(hs.2 p.1 ?_).trans e, n, ne, nf, d⟩
      intro q
      rw [q, hoc] at e
      have q' : oc = p.2 := Option.some.inj e
      exact d w' (by rw [← q']; exact hocd)
theorem store_ok {M : Model} {A : Around} {E : Value → Shared → Prop} {i : Nat} {x : Str} {v : V} {u : Value} {Q : Unit → Shared → Prop} (I : Inv X pins σ H s) (hN : X.N.Nodup) (hi : X.N[i]? = some x) (hx : Loc X.env.scope x) (r : RelV v u)
    (h : ∀ s', Inv X pins (σ.set i (some v)) H s' → Q () s') (hf : X.fn x = true ∨ X.env.scope.names.lookup x = some .local := by first | exact .inl rfl | exact .inr rfl | assumption) : wpAny M A (storeName X.env x u) Q E s :=
  store_ok2 I hN hi hx r (fun s' I' _ => h s' I') hf
theorem Inv.call' {s' : Shared} {ch : List Addr} (I : Inv X pins σ H s) (ho : s'.os = s.os) (u : Un (frs X.stack) ch H H' s.heap s'.heap) (hok : HOk X.prog X.w H' s'.heap) (hg : AllBare s'.gens)
    (hch : ∀ b ∈ ch, (b ∈ X.ex ∨ X.s₀.heap.objs.size ≤ b) ∧ b ≠ X.env.locals ∧ (∀ x c, X.env.cells.lookup x = some c → c ≠ b) ∧ ∀ p ∈ X.pn ++ pins, p.1 ≠ b) : Inv X pins σ H' s' := by
  obtain ⟨h', g', d', t', o'⟩ := s'
  have e : o' = s.os := ho
  subst e
  exact I.call (g' := g') (t' := t') (d' := d') u hok hg hch
end

abbrev XK := Value → Option Addr → Hp → Prop
abbrev St := List (Option V)
abbrev VK := V → Hp → Prop
abbrev TE := St → Hp → VK → Prop
abbrev TT := St → Hp → (Bool → Hp → Prop) → Prop
abbrev TA := St → Hp → (List V → Hp → Prop) → Prop
structure Ends where
  nx : St → Hp → Prop
  rt : VK
  bk : St → Hp → Prop := fun _ _ => False
  ct : St → Hp → Prop := fun _ _ => False
abbrev TS := Ends → St → Hp → Prop

def EP (X : Cx) (pins : List (Addr × Obj)) (σ : St) (Q : VK) (u : Value) (s' : Shared) : Prop := ∃ v H', Inv X pins σ H' s' ∧ RelV v u ∧ Q v H'
def TP (X : Cx) (pins : List (Addr × Obj)) (σ : St) (Q : Bool → Hp → Prop) (b : Bool) (s' : Shared) : Prop := ∃ H', Inv X pins σ H' s' ∧ Q b H'
def AP (X : Cx) (pins : List (Addr × Obj)) (σ : St) (Q : List V → Hp → Prop) (us : List Value) (s' : Shared) : Prop := ∃ vs H', Inv X pins σ H' s' ∧ Vals vs us ∧ Q vs H'
def SP (X : Cx) (pins : List (Addr × Obj)) (D : Ends) (f : Flow) (s' : Shared) : Prop :=
  match f with
  | .next => ∃ σ' H', Inv X pins σ' H' s' ∧ D.nx σ' H'
  | .brk => ∃ σ' H', Inv X pins σ' H' s' ∧ D.bk σ' H'
  | .cont => ∃ σ' H', Inv X pins σ' H' s' ∧ D.ct σ' H'
  | .ret u => ∃ v σ' H', Inv X pins σ' H' s' ∧ RelV v u ∧ D.rt v H'

def PE (X : Cx) (e : Expr) (t : TE) : Prop :=
  ∀ (pins : List (Addr × Obj)) (s : Shared) (σ : St) (H : Hp) (Q : VK), Inv X pins σ H s → t σ H Q → wpAny (model X.prog X.w) X.A (eval e X.env) (EP X pins σ Q) X.xe s
def PT (X : Cx) (e : Expr) (t : TT) : Prop :=
  ∀ (pins : List (Addr × Obj)) (s : Shared) (σ : St) (H : Hp) (Q : Bool → Hp → Prop), Inv X pins σ H s → t σ H Q → wpAny (model X.prog X.w) X.A (isTrue e X.env (eval e X.env)) (TP X pins σ Q) X.xe s
def PW (X : Cx) (e : Expr) (t : TT) : Prop :=
  ∀ (whole : Sem Value) (pins : List (Addr × Obj)) (s : Shared) (σ : St) (H : Hp) (Q : Bool → Hp → Prop), Inv X pins σ H s → t σ H Q → wpAny (model X.prog X.w) X.A (isTrue e X.env whole) (TP X pins σ Q) X.xe s
def PA (X : Cx) (es : List Expr) (t : TA) : Prop :=
  ∀ (pos : Pos) (pins : List (Addr × Obj)) (s : Shared) (σ : St) (H : Hp) (Q : List V → Hp → Prop), Inv X pins σ H s → t σ H Q → wpAny (model X.prog X.w) X.A (spliced (backTo pos (starEach es X.env))) (AP X pins σ Q) X.xe s
def PS (X : Cx) (st : Stmt) (t : TS) : Prop :=
  ∀ (pins : List (Addr × Obj)) (s : Shared) (σ : St) (H : Hp) (D : Ends), Inv X pins σ H s → t D σ H → wpAny (model X.prog X.w) X.A (exec st X.env) (SP X pins D) X.xe s
def PSs (X : Cx) (st : List Stmt) (t : TS) : Prop :=
  ∀ (pins : List (Addr × Obj)) (s : Shared) (σ : St) (H : Hp) (D : Ends), Inv X pins σ H s → t D σ H → wpAny (model X.prog X.w) X.A (execs st X.env) (SP X pins D) X.xe s
theorem thn {α : Type} {t : Sem α} {Q Q' : α → Shared → Prop} {M : Model} {A : Around} {E : Value → Shared → Prop} {s : Shared} (h : wpAny M A t Q E s) (hQ : ∀ a s, Q a s → Q' a s) : wpAny M A t Q' E s := wpAny_mono h hQ fun _ _ x => x
end L2

namespace L2
open PySem PySem.Spec PyProof.Rows
section
variable {X : Cx}

def tVar (i : Nat) : TE := fun σ H Q => ∃ v, σ[i]? = some (some v) ∧ Q v H
def tC (v : V) : TE := fun _ H Q => Q v H
theorem pe_var {i : Nat} {x : Str} {pos : Pos} (hN : X.N[i]? = some x) (hv : Vis X.env.scope x) (hd : (x == ("__debug__" : Str)) = false := by decide) (hcd : (x == ("__classdict__" : Str)) = false := by decide) : PE X (.Name x pos) (tVar i) := by
  intro pins s σ H Q I h
  obtain ⟨v, e, h⟩ := h
  obtain ⟨m, hn, hl⟩ := I.loc
  obtain ⟨u, r, l⟩ := hl i x v hN e hv
  have fin : EP X pins σ Q u s := ⟨v, H, I, r, h⟩
  rcases l with ⟨hk, hm⟩ | ⟨hk, c, hc, hcell⟩
  · exact wpAny_Name (wpAny_loadName_local I.ok.kind hk hn hm fin) hd
  · rcases hk with hk | hk
    · exact wpAny_Name (wpAny_loadName_cell I.ok.kind hk hc hcell fin) hd
    · exact wpAny_Name (wpAny_loadName_free I.ok.kind hk hc hcell fin hcd) hd
theorem pe_int {i j pos} : PE X (.Constant (.int i) j pos) (tC (.int i)) := fun _ _ _ H _ I h => wpAny_Constant_int ⟨.int i, H, I.tok _, ⟨_, rfl⟩, h⟩
theorem pe_bl {b j pos} : PE X (.Constant (.bool b) j pos) (tC (.bl b)) := fun _ _ _ H _ I h => Constant_bool ⟨.bl b, H, I, rfl, h⟩
theorem pe_str {x j pos} : PE X (.Constant (.str x) j pos) (tC (.str x)) := fun _ _ _ H _ I h => Calls.Constant_str ⟨.str x, H, I.tok _, ⟨_, rfl⟩, h⟩

def Gl (X : Cx) (x : Str) : Prop := X.env.kindOf x = some .globalImplicit
theorem ld_glob {E : Value → Shared → Prop} {pins : List (Addr × Obj)} {s : Shared} {σ : St} {H : Hp} {x : Str} {u : Value} {pos : Pos} {Q : Value → Shared → Prop} (I : Inv X pins σ H s) (hg : Gl X x) (hm : X.mg x = some u) (h : Q u s)
    (hd : (x == ("__debug__" : Str)) = false := by decide) : wpAny (model X.prog X.w) X.A (eval (.Name x pos) X.env) Q E s :=
  Calls.Name_function_global I.ok.kind hg (Calls.loadGlobal_global (by rw [I.ok.glob]; exact I.mod.glob.keeps I.bk) hm h) hd
theorem ld_blt {E : Value → Shared → Prop} {pins : List (Addr × Obj)} {s : Shared} {σ : St} {H : Hp} {x : Str} {u : Value} {pos : Pos} {Q : Value → Shared → Prop} (I : Inv X pins σ H s) (hg : Gl X x) (hm : X.mg x = none) (hv : bootBuiltins x = some u) (h : Q u s)
    (hn : x ≠ "__name__" := by decide) (hd : (x == ("__debug__" : Str)) = false := by decide) : wpAny (model X.prog X.w) X.A (eval (.Name x pos) X.env) Q E s := by
  obtain ⟨mb, h1, h2⟩ := I.mod.blt
  exact Calls.Name_function_global I.ok.kind hg (Calls.loadGlobal_builtin (by rw [I.ok.glob]; exact I.mod.glob.keeps I.bk) hm (by rw [I.ok.blt]; exact h1.keeps I.bk) ((h2 x hn).trans hv) h) hd
theorem pe_glob {x : Str} {v : V} {u : Value} {pos : Pos} (hg : Gl X x) (hm : X.mg x = some u) (r : RelV v u) (hd : (x == ("__debug__" : Str)) = false := by decide) : PE X (.Name x pos) (tC v) :=
  fun _ _ _ H _ I h => ld_glob I hg hm ⟨v, H, I, r, h⟩ hd
def t2I (ta tb : TE) (k : Int → Int → Hp → Prop) : St → Hp → Prop := fun σ H => ta σ H fun x H1 => tb σ H1 fun y H2 => ∃ i j, x = .int i ∧ y = .int j ∧ k i j H2
def tAdd (ta tb : TE) : TE := fun σ H Q => t2I ta tb (fun i j H2 => Q (.int (i + j)) H2) σ H
def tSub (ta tb : TE) : TE := fun σ H Q => t2I ta tb (fun i j H2 => Q (.int (i - j)) H2) σ H
def tMul (ta tb : TE) : TE := fun σ H Q => t2I ta tb (fun i j H2 => (-(2 ^ 64) < i ∧ i < 2 ^ 64) ∧ Q (.int (i * j)) H2) σ H
variable {a b : Expr} {ta tb : TE} {pos : Pos}
def PC (X : Cx) (op : CmpOp) (a b : Expr) (t : TE) : Prop :=
  ∀ (pins : List (Addr × Obj)) (s : Shared) (σ : St) (H : Hp) (Q : VK), Inv X pins σ H s → t σ H Q →
    wpAny (model X.prog X.w) X.A (eval a X.env) (fun v s₁ => wpAny (model X.prog X.w) X.A (eval b X.env) (fun u s₂ => wpAny (model X.prog X.w) X.A (compareOp op v u) (EP X pins σ Q) X.xe s₂) X.xe s₁) X.xe s
def tCmp (p : Int → Int → Bool) (ta tb : TE) : TE := fun σ H Q => t2I ta tb (fun i j H2 => Q (.bl (p i j)) H2) σ H
abbrev tLt : TE → TE → TE := tCmp fun i j => decide (i < j)
abbrev tLe : TE → TE → TE := tCmp fun i j => decide (i ≤ j)
abbrev tGt : TE → TE → TE := tCmp fun i j => decide (j < i)
abbrev tGe : TE → TE → TE := tCmp fun i j => decide (j ≤ i)
abbrev tEqI : TE → TE → TE := tCmp fun i j => decide (i = j)
abbrev tNeI : TE → TE → TE := tCmp fun i j => !decide (i = j)
def tIsN (ta : TE) : TE := fun σ H Q => ta σ H fun x H1 => Q (.bl (decide (x = .non))) H1
def tNotN (ta : TE) : TE := fun σ H Q => ta σ H fun x H1 => Q (.bl (!decide (x = .non))) H1
def tB (t : TE) : TT := fun σ H Q => t σ H fun x H1 => ∃ c, x = .bl c ∧ Q c H1
theorem pt_val {e : Expr} {t : TE} (h : PE X e t) (he : ∀ whole, isTrue e X.env whole = (do let v ← whole; standAt e.pos; holding [v] (truthy v)) := by intro _; rfl) : PT X e (tB t) := by
  intro pins s σ H Q I hw
  refine isTrue_plain (thn (h pins s σ H _ I hw) fun v s1 ⟨x, H1, I1, r1, q1⟩ => ?_) (he _)
  obtain ⟨d, rfl, q⟩ := q1
  cases r1
  exact wpAny_truthy_bool ⟨H1, I1, q⟩

variable {tA tB' : TT} {rest : List Expr}
def tAnd (t u : TT) : TT := fun σ H Q => t σ H fun c H1 => if c = true then u σ H1 Q else Q false H1
def tOr (t u : TT) : TT := fun σ H Q => t σ H fun c H1 => if c = true then Q true H1 else u σ H1 Q
def tNot (t : TT) : TT := fun σ H Q => t σ H fun c H1 => Q (!c) H1
theorem pt_not (ha : PT X a tA) : PT X (.UnaryOp .Not a pos) (tNot tA) := by
  intro pins s σ H Q I h
  exact isTrue_not (ha pins s σ H (fun c H1 => Q (!c) H1) I h)
def tAndV (ta tb : TE) : TE := fun σ H Q => ta σ H fun x H1 => ∃ c, x = .bl c ∧ if c = true then tb σ H1 Q else Q (.bl false) H1
def tOrV (ta tb : TE) : TE := fun σ H Q => ta σ H fun x H1 => ∃ c, x = .bl c ∧ if c = true then Q (.bl true) H1 else tb σ H1 Q
def tNotV (ta : TE) : TE := fun σ H Q => ta σ H fun x H1 => ∃ c, x = .bl c ∧ Q (.bl (!c)) H1
theorem pe_one {op} {t : TE} (h : PE X a t) : PE X (.BoolOp op [a] pos) t := fun pins s σ H Q I hw => BoolOp_one (h pins s σ H Q I hw)
theorem pe_and (ha : PE X a ta) (hb : PE X (.BoolOp .And (b :: rest) pos) tb) : PE X (.BoolOp .And (a :: b :: rest) pos) (tAndV ta tb) := by
  intro pins s σ H Q I h
  refine BoolOp_and (thn (ha pins s σ H _ I h) fun v s1 ⟨x, H1, I1, r1, q1⟩ => ?_)
  obtain ⟨c, rfl, q1⟩ := q1
  cases r1
  refine wpAny_truthy_bool ?_
  cases c with
  | true => exact hb pins s1 σ H1 Q I1 q1
  | false => exact ⟨.bl false, H1, I1, rfl, q1⟩
theorem pe_not (ha : PE X a ta) : PE X (.UnaryOp .Not a pos) (tNotV ta) := by
  intro pins s σ H Q I h
  refine UnaryOp_ (thn (ha pins s σ H _ I h) fun v s1 ⟨x, H1, I1, r1, q1⟩ => ?_)
  obtain ⟨c, rfl, q1⟩ := q1
  cases r1
  exact not_of (wpAny_truthy_bool ⟨.bl (!c), H1, I1, rfl, q1⟩)
def tIf (t : TT) (ta tb : TE) : TE := fun σ H Q => t σ H fun c H1 => if c = true then ta σ H1 Q else tb σ H1 Q
theorem pe_ifExp {c : Expr} (hc : PT X c tA) (ha : PE X a ta) (hb : PE X b tb) : PE X (.IfExp c a b pos) (tIf tA ta tb) := by
  intro pins s σ H Q I h
  refine wpAny_IfExp (thn (hc pins s σ H _ I h) fun d s1 ⟨H1, I1, q1⟩ => ?_)
  cases d with
  | true => exact ha pins s1 σ H1 Q I1 q1
  | false => exact hb pins s1 σ H1 Q I1 q1
end
end L2

namespace L2
open PySem PySem.Spec PyProof.Rows

def SqL (K : PySem.W.Frag) (H : Hp) (a : Addr) (xs : List V) : Prop :=
  Rd H a (.lst xs) ∨
    ∃ (o : Obj) (its : Array Value) (n : Nat), K.lookup a = some o ∧ o.cls = .type "list" ∧ o.dict = none ∧ o.data = .seq its n ∧ its.size ≤ sizeLine ∧ Vals xs its.toList
def SqT (K : PySem.W.Frag) (H : Hp) (a : Addr) (xs : List V) : Prop :=
  Rd H a (.tup xs) ∨
    ∃ (o : Obj) (its : Array Value) (n : Nat), K.lookup a = some o ∧ o.cls = .type "tuple" ∧ o.data = .seq its n ∧ its.size ≤ sizeLine ∧ Vals xs its.toList
def absV : Value → Option V
  | .none => some .non
  | .bool b => some (.bl b)
  | .int i _ => some (.int i)
  | .str x _ => some (.str x)
  | .bytes b _ => some (.byt b)
  | .float b _ => some (.flt b)
  | .ref a => some (.ref a)
  | .type n => some (.ty n)
  | _ => none
theorem RelV.abs {x : V} {u : Value} (r : RelV x u) : absV u = some x := by
  cases x with
  | non => cases r; rfl
  | bl _ => cases r; rfl
  | int _ => obtain ⟨t, rfl⟩ := r; rfl
  | str _ => obtain ⟨t, rfl⟩ := r; rfl
  | byt _ => obtain ⟨t, rfl⟩ := r; rfl
  | flt _ => obtain ⟨t, rfl⟩ := r; rfl
  | ref _ => cases r; rfl
  | ty _ => cases r; rfl
theorem RelV.inj {x y : V} {u : Value} (r : RelV x u) (q : RelV y u) : x = y := Option.some.inj (r.abs.symm.trans q.abs)
theorem Vals.inj : ∀ {xs ys : List V} {us : List Value}, Vals xs us → Vals ys us → xs = ys
  | _, _, _, .nil, .nil => rfl
  | _, _, _, .cons r t, .cons r' t' => by rw [r.inj r', Vals.inj t t']
section
variable {X : Cx} {pins : List (Addr × Obj)} {σ : St} {H : Hp} {s : Shared} {a : Addr} {xs ys : List V}
theorem Inv.list (I : Inv X pins σ H s) (h : SqL X.K H a xs) : ∃ its : List Value, Vals xs its ∧ PlainL s.heap a its.toArray ∧ xs.length ≤ sizeLine := by
  rcases h with h | ⟨o, its, n, hk, hc, hd, hs, hz, r⟩
  · obtain ⟨z, its, n, r, e⟩ := h.ok I.hok
    exact ⟨its, r, ⟨_, n, e, rfl, rfl, rfl⟩, z⟩
  · refine ⟨its.toList, r, ⟨o, n, I.kIn a o hk, hc, hd, by simpa using hs⟩, ?_⟩
    have e := r.length
    simp only [Array.length_toList] at e
    omega
theorem Inv.tuple (I : Inv X pins σ H s) (h : SqT X.K H a xs) : ∃ its : List Value, Vals xs its ∧ IsTup s.heap a its.toArray ∧ xs.length ≤ sizeLine := by
  rcases h with h | ⟨o, its, n, hk, hc, hs, hz, r⟩
  · obtain ⟨z, its, r, p⟩ := h.ok I.hok
    exact ⟨its, r, p, z⟩
  · refine ⟨its.toList, r, ⟨o, I.kIn a o hk, hc, n, by simpa using hs⟩, ?_⟩
    have e := r.length
    simp only [Array.length_toList] at e
    omega
theorem Inv.list_inj (I : Inv X pins σ H s) (h : SqL X.K H a xs) (h' : SqL X.K H a ys) : xs = ys := by
  obtain ⟨its, r, ⟨o, n, e, _, _, d⟩, _⟩ := I.list h
  obtain ⟨its', r', ⟨o', n', e', _, _, d'⟩, _⟩ := I.list h'
  rw [e] at e'; cases e'
  rw [d] at d'
  injection d' with d1 _
  have : its = its' := by simpa using congrArg Array.toList d1
  subst this
  exact r.inj r'
theorem Inv.tuple_inj (I : Inv X pins σ H s) (h : SqT X.K H a xs) (h' : SqT X.K H a ys) : xs = ys := by
  obtain ⟨its, r, ⟨o, e, _, n, d⟩, _⟩ := I.tuple h
  obtain ⟨its', r', ⟨o', e', _, n', d'⟩, _⟩ := I.tuple h'
  rw [e] at e'; cases e'
  rw [d] at d'
  injection d' with d1 _
  have : its = its' := by simpa using congrArg Array.toList d1
  subst this
  exact r.inj r'
end

abbrev Cx.wish (X : Cx) (E : Value → Shared → Prop) : Cx := { X with xe := E }
abbrev Cx.nox (X : Cx) : Cx := X.wish fun _ _ => False
section
variable {X : Cx} {pins : List (Addr × Obj)} {σ : St} {H : Hp} {s : Shared} {E : Value → Shared → Prop}
end

section
variable {X : Cx} {st : Stmt} {rest : List Stmt} {t u : TS} {e : Expr} {te : TE} {pos : Pos}
def tNext : TS := fun D σ H => D.nx σ H
def tSeq (t u : TS) : TS := fun D σ H => t { D with nx := u D } σ H
theorem pss_nil : PSs X [] tNext := fun _ _ σ H _ I h => wpAny_execs_nil ⟨σ, H, I, h⟩
theorem pss_cons (h1 : PS X st t) (h2 : PSs X rest u) : PSs X (st :: rest) (tSeq t u) := by
  intro pins s σ H D I h
  refine wpAny_execs_cons (thn (h1 pins s σ H { D with nx := u D } I h) fun f s1 q => ?_)
  cases f with
  | next =>
    obtain ⟨σ', H', I', q⟩ := q
    exact h2 pins s1 σ' H' D I' q
  | ret v => exact q
  | brk => exact q
  | cont => exact q
theorem pss_one (h1 : PS X st t) : PSs X [st] t := by
  intro pins s σ H D I h
  refine wpAny_execs_cons (thn (h1 pins s σ H D I h) fun f s1 q => ?_)
  cases f with
  | next => exact wpAny_execs_nil q
  | ret v => exact q
  | brk => exact q
  | cont => exact q
def tBreak : TS := fun D σ H => D.bk σ H
def tCont : TS := fun D σ H => D.ct σ H
theorem Inv.quiet {pins : List (Addr × Obj)} {σ : St} {H : Hp} {s : Shared} (I : Inv X pins σ H s) : interactive X.env = false := by simp [interactive, I.ok.kind]
def tDrop (te : TE) : TS := fun D σ H => te σ H fun _ H1 => D.nx σ H1
theorem ps_expr (he : PE X e te) (hs : swapsWith e none pos.line X.env = pure false := by rfl) : PS X (.Expr e pos) (tDrop te) := by
  intro pins s σ H D I h
  exact wpAny_Expr_any (thn (he pins s σ H _ I h) fun v s1 ⟨x, H1, I1, r1, q1⟩ => ⟨σ, H1, I1, q1⟩) I.quiet hs
def tRet (te : TE) : TS := fun D σ H => te σ H D.rt
theorem ps_ret (he : PE X e te) : PS X (.Return (some e) pos) (tRet te) := by
  intro pins s σ H D I h
  exact wpAny_Return_some (thn (he pins s σ H _ I h) fun v s1 ⟨x, H1, I1, r1, q1⟩ => ⟨x, σ, H1, I1, r1, q1⟩)
def tRetN : TS := fun D _ H => D.rt .non H
def tIfS (c : TT) (t u : TS) : TS := fun D σ H => c σ H fun b H1 => if b = true then t D σ H1 else u D σ H1
theorem ps_if {c : Expr} {a b : List Stmt} {tc : TT} (hc : PT X c tc) (ha : PSs X a t) (hb : PSs X b u) : PS X (.If c a b pos) (tIfS tc t u) := by
  intro pins s σ H D I h
  refine wpAny_If (thn (hc pins s σ H _ I h) fun d s1 ⟨H1, I1, q1⟩ => ?_)
  cases d with
  | true => exact ha pins s1 σ H1 D I1 q1
  | false => exact hb pins s1 σ H1 D I1 q1
def tNever : TS := fun _ _ _ => False
end

abbrev TG := V → St → Hp → (St → Hp → Prop) → Prop
abbrev TGs := List V → St → Hp → (St → Hp → Prop) → Prop
def PG (X : Cx) (target : Expr) (t : TG) : Prop :=
  ∀ (pins : List (Addr × Obj)) (s : Shared) (σ : St) (H : Hp) (v : V) (u : Value) (Q : St → Hp → Prop), Inv X pins σ H s → RelV v u → t v σ H Q →
    wpAny (model X.prog X.w) X.A (assign target X.env u) (fun _ s' => ∃ σ' H', Inv X pins σ' H' s' ∧ Q σ' H') X.xe s
def PGs (X : Cx) (ts : List Expr) (t : TGs) : Prop :=
  ∀ (pins : List (Addr × Obj)) (s : Shared) (σ : St) (H : Hp) (vs : List V) (us : List Value) (Q : St → Hp → Prop), Inv X pins σ H s → Vals vs us → t vs σ H Q →
    wpAny (model X.prog X.w) X.A (assignInOrder ((assignEach ts X.env).map (·.2)) us) (fun _ s' => ∃ σ' H', Inv X pins σ' H' s' ∧ Q σ' H') X.xe s
abbrev TSet := V → V → V → Hp → (Hp → Prop) → Prop
def PSet (X : Cx) (t : TSet) : Prop :=
  ∀ (pins : List (Addr × Obj)) (s : Shared) (σ : St) (H : Hp) (o i v : V) (ov iv u : Value) (Q : Hp → Prop), Inv X pins σ H s → RelV o ov → RelV i iv → RelV v u → t o i v H Q →
    wpAny (model X.prog X.w) X.A (setItem ov iv u) (fun _ s' => ∃ H', Inv X pins σ H' s' ∧ Q H') X.xe s
abbrev TIp := V → V → Hp → VK → Prop
def PIp (X : Cx) (op : Operator) (t : TIp) : Prop :=
  ∀ (pins : List (Addr × Obj)) (s : Shared) (σ : St) (H : Hp) (x y : V) (v u : Value) (Q : VK), Inv X pins σ H s → RelV x v → RelV y u → t x y H Q →
    wpAny (model X.prog X.w) X.A (inplaceOp op v u) (EP X pins σ Q) X.xe s
section
variable {X : Cx} {pos : Pos}
def gName (i : Nat) : TG := fun v σ H Q => Q (σ.set i (some v)) H
theorem pg_name {i : Nat} {x : Str} (hN : X.N.Nodup) (hi : X.N[i]? = some x) (hx : Loc X.env.scope x) (hf : X.fn x = true ∨ X.env.scope.names.lookup x = some .local := by first | exact .inl rfl | exact .inr rfl | assumption) : PG X (.Name x pos) (gName i) := by
  intro pins s σ H v u Q I r h
  exact wpAny_assign_Name (store_ok I hN hi hx r (fun s' I' => ⟨_, H, I', h⟩) hf)
def gNil : TGs := fun vs σ H Q => vs = [] ∧ Q σ H
def gCons (t : TG) (u : TGs) : TGs := fun vs σ H Q => ∃ v r, vs = v :: r ∧ t v σ H fun σ' H' => u r σ' H' Q
theorem pgs_nil : PGs X [] gNil := by
  intro pins s σ H vs us Q I r h
  obtain ⟨e, h⟩ := h
  subst e
  cases r
  exact assignInOrder_nil ⟨σ, H, I, h⟩
theorem pgs_cons {e : Expr} {es : List Expr} {t : TG} {u : TGs} (h1 : PG X e t) (h2 : PGs X es u)
    (hs : (assignEach (e :: es) X.env).map (·.2) = assign e X.env :: (assignEach es X.env).map (·.2) := by rfl) : PGs X (e :: es) (gCons t u) := by
  intro pins s σ H vs us Q I r h
  obtain ⟨v, vr, e1, h⟩ := h
  subst e1
  cases r with
  | cons r rr =>
    rw [hs]
    refine assignInOrder_cons (thn (h1 pins s σ H _ _ _ I r h) fun _ s1 ⟨σ1, H1, I1, q1⟩ => ?_)
    exact h2 pins s1 σ1 H1 _ _ Q I1 rr q1
def gTup (K : PySem.W.Frag) (n : Nat) (t : TGs) : TG := fun v σ H Q => ∃ a xs, v = .ref a ∧ SqT K H a xs ∧ xs.length = n ∧ t xs σ H Q
theorem pg_tup {es : List Expr} {k : Nat} {t : TGs} {n : Nat} (hc : X.calm = true) (h : PGs X es t)
    (hn : (assignEach es X.env).length = n := by rfl) (hst : (assignEach es X.env).findIdx? (·.1) = none := by rfl) : PG X (.Tuple es k pos) (gTup X.K n t) := by
  intro pins s σ H v u Q I r hw
  obtain ⟨a, xs, e1, hq, hl, hw⟩ := hw
  subst e1
  cases r
  obtain ⟨its, rv, ht, hz⟩ := I.tuple hq
  refine assign_Tuple_tuple (I.ok.hd hc) ht (by simp [hn, ← hl, rv.length]) hst fun h' hx => ?_
  have I1 : Inv X pins σ H { s with heap := h' } := I.kept (t' := s.toks) fun b o e => hx b o (Nat.ne_of_lt (Heap.lt_size e)) e
  exact h pins _ σ H xs _ Q I1 (by simpa using rv) hw
def gSub (to ti : TE) (t : TSet) : TG := fun v σ H Q => to σ H fun o H1 => ti σ H1 fun i H2 => t o i v H2 fun H3 => Q σ H3
theorem pg_sub {o i : Expr} {to ti : TE} {t : TSet} (ho : PE X o to) (hi : PE X i ti) (hs : PSet X t)
    (ha : ∀ v, assign (.Subscript o i pos) X.env v = (do
      let ov ← holding [v] (eval o X.env)
      let iv ← holding [v, ov] (eval i X.env)
      standAt pos
      holding [v, ov, iv] (setItem ov iv v)
      release [v, ov, iv] []) := by intro _; rfl) : PG X (.Subscript o i pos) (gSub to ti t) := by
  intro pins s σ H v u Q I r h
  rw [ha]
  refine wpAny_bind (wpAny_holding (thn (ho pins s σ H _ I h) fun ov s1 ⟨x, H1, I1, r1, q1⟩ => ?_))
  refine wpAny_bind (wpAny_holding (thn (hi pins s1 σ H1 _ I1 q1) fun iv s2 ⟨y, H2, I2, r2, q2⟩ => ?_))
  refine wpAny_bind (wpAny_standAt (wpAny_bind (wpAny_holding (thn (hs pins s2 σ H2 x y v ov iv u _ I2 r1 r2 r q2) fun _ s3 ⟨H3, I3, q3⟩ => ?_))))
  exact wpAny_release ⟨σ, H3, I3, q3⟩
def tAsg (te : TE) (g : TG) : TS := fun D σ H => te σ H fun x H1 => g x σ H1 D.nx
theorem ps_asg {tg e : Expr} {te : TE} {g : TG} (he : PE X e te) (hg : PG X tg g) (hs : swapsWithSole [tg] e pos.line X.env = pure false := by rfl) (hw : swappedStores [tg] e X.env = pure none := by rfl)
    (h1 : (assignEach [tg] X.env).map (·.2) = [assign tg X.env] := by rfl) : PS X (.Assign [tg] e pos) (tAsg te g) := by
  intro pins s σ H D I h
  refine wpAny_Assign_stores (thn (he pins s σ H _ I h) fun v s1 ⟨x, H1, I1, r1, q1⟩ => ?_) hs hw
  rw [h1]
  exact thn (hg pins s1 σ H1 x v _ I1 r1 q1) fun _ s2 q => q
theorem ps_set {i : Nat} {x : Str} {e : Expr} {te : TE} {pos' : Pos} (hN : X.N.Nodup) (hi : X.N[i]? = some x) (hx : Loc X.env.scope x) (he : PE X e te) (hs : swapsWith e (some (.Name x pos')) pos.line X.env = pure false := by rfl) (hf : X.fn x = true ∨ X.env.scope.names.lookup x = some .local := by first | exact .inl rfl | exact .inr rfl | assumption) :
    PS X (.Assign [.Name x pos'] e pos) (tAsg te (gName i)) := by
  intro pins s σ H D I h
  refine wpAny_Assign_Name (thn (he pins s σ H _ I h) fun v s1 ⟨y, H1, I1, r1, q1⟩ => ?_) hs
  exact store_ok I1 hN hi hx r1 (fun s2 I2 => ⟨_, H1, I2, q1⟩) hf
def tPar (i j : Nat) (ta : TA) : TS := fun D σ H => ta σ H fun vs H1 => ∃ v w, vs = [v, w] ∧ D.nx ((σ.set i (some v)).set j (some w)) H1
def tAug (i : Nat) (te : TE) (ti : TIp) : TS := fun D σ H => ∃ x, σ[i]? = some (some x) ∧ te σ H fun y H1 => ti x y H1 fun z H2 => D.nx (σ.set i (some z)) H2
def tAugS (to ti te : TE) (tget : V → V → Hp → VK → Prop) (tip : TIp) (tset : TSet) : TS := fun D σ H => to σ H fun o H1 => ti σ H1 fun i H2 => tget o i H2 fun x H3 => te σ H3 fun y H4 => tip x y H4 fun z H5 => tset o i z H5 fun H6 => D.nx σ H6
def PGet (X : Cx) (t : V → V → Hp → VK → Prop) : Prop :=
  ∀ (pins : List (Addr × Obj)) (s : Shared) (σ : St) (H : Hp) (o i : V) (ov iv : Value) (Q : VK), Inv X pins σ H s → RelV o ov → RelV i iv → t o i H Q →
    wpAny (model X.prog X.w) X.A (getItem ov iv) (EP X pins σ Q) X.xe s
def ipI (f : Int → Int → Int) : TIp := fun x y H Q => ∃ i j, x = .int i ∧ y = .int j ∧ Q (.int (f i j)) H
end

section
variable {X : Cx} {pos : Pos}
def tWhile (c : TT) (tb : TS) : TS := fun D σ H => ∃ W : Nat → St → Hp → Prop, (∃ m, W m σ H) ∧ ∀ m σ H, W m σ H →
  c σ H fun b H1 => if b = true then ∃ N : St → Hp → Prop, (∀ σ' H', N σ' H' → ∃ m', m' < m ∧ W m' σ' H') ∧ tb { D with nx := N, ct := N, bk := D.nx } σ H1 else D.nx σ H1
theorem ps_while {c : Expr} {body : List Stmt} {tc : TT} {tb : TS} (hp : PassesOwn (model X.prog X.w) X.A X.env X.xe) (hc : PT X c tc) (hb : PSs X body tb) : PS X (.While c body [] pos) (tWhile tc tb) := by
  intro pins s σ H D I h
  obtain ⟨W, ⟨m0, w0⟩, turn⟩ := h
  refine wpAny_While (codeAny_whileLoop (fun n s' => ∃ σ' H', Inv X pins σ' H' s' ∧ W n σ' H') ?_ m0 ⟨σ, H, I, w0⟩)
  rintro n s1 ⟨σ1, H1, I1, w1⟩
  refine wpAny_passesOwn hp (thn (hc pins s1 σ1 H1 _ I1 (turn n σ1 H1 w1)) fun b s2 ⟨H2, I2, q2⟩ => ?_)
  cases b with
  | true =>
    obtain ⟨N, hN, q2⟩ := q2
    rw [if_pos rfl]
    refine wpAny_passesOwn hp (thn (hb pins s2 σ1 H2 _ I2 q2) fun f s3 q3 => ?_)
    cases f with
    | next =>
      obtain ⟨σ3, H3, I3, n3⟩ := q3
      obtain ⟨m', hm, w3⟩ := hN σ3 H3 n3
      exact ⟨m', hm, σ3, H3, I3, w3⟩
    | cont =>
      obtain ⟨σ3, H3, I3, n3⟩ := q3
      obtain ⟨m', hm, w3⟩ := hN σ3 H3 n3
      exact ⟨m', hm, σ3, H3, I3, w3⟩
    | brk => exact q3
    | ret v => exact q3
  | false =>
    rw [if_neg Bool.false_ne_true]
    exact wpAny_execs_nil ⟨σ1, H2, I2, q2⟩
end

structure It where
  go : Nat → Hp → Prop
  yld : Nat → Hp → V → Hp → Prop
  stop : Nat → Hp → Prop
def FpOk (X : Cx) (pins : List (Addr × Obj)) (H : Hp) (b : Addr) : Prop :=
  H b = none ∧ b ≠ X.env.locals ∧ b ∉ X.fs ∧ (b ∈ X.ex ∨ X.s₀.heap.objs.size ≤ b) ∧ (∀ x c, X.env.cells.lookup x = some c → c ≠ b) ∧ ∀ p ∈ X.pn ++ pins, p.1 ≠ b
theorem Inv.fpOk {X : Cx} {pins : List (Addr × Obj)} {σ : St} {H H' : Hp} {s : Shared} {b : Addr} (I : Inv X pins σ H s) (hb : s.heap.objs.size ≤ b) (hn : H' b = none) : FpOk X pins H' b := by
  refine ⟨hn, Nat.ne_of_gt (Nat.lt_of_lt_of_le I.lt hb), I.nofs hb, .inr (Nat.le_trans I.sz hb), fun x c e z => ?_, fun p hp z => ?_⟩
  · obtain ⟨v, q⟩ := I.cell x c e
    exact absurd (Nat.lt_of_lt_of_le q.lt (by rw [z]; exact hb)) (Nat.lt_irrefl _)
  · exact absurd (Nat.lt_of_lt_of_le (Heap.lt_size (I.pin p hp).1) (by rw [z]; exact hb)) (Nat.lt_irrefl _)
structure Turn (P : Program) (w : World) (K : PySem.W.Frag) (tg : Expr) (J : It) (fp : List Addr) (it : Addr) (tn : Nat → Heap → Prop) : Prop where
  mem : it ∈ fp
  obj : ∀ i h, tn i h → ∀ b ∈ fp, ∃ o, h.get? b = some o ∧ ∀ v, o.data ≠ .cell v
  keep : ∀ i h h', tn i h → (∀ b ∈ fp, ∀ o, h.get? b = some o → h'.get? b = some o) → tn i h'
  item : ∀ (X : Cx), X.prog = P → X.w = w → X.K = K → X.calm = true → ∀ (i : Nat) (pins : List (Addr × Obj)) (s : Shared) (σ : St) (H : Hp) (E : Value → Shared → Prop), Inv X pins σ H s → (∀ b ∈ fp, FpOk X pins H b) → tn i s.heap → J.go i H →
    wpAny (model P w) X.A (pyNext (.ref it)) (fun r s1 => ∃ u, r = some u ∧
      wpAny (model P w) X.A (letOwnedTupleGo tg (.ref it) u) (fun _ s2 => ∃ x H', Inv X pins σ H' s2 ∧ RelV x u ∧ J.yld i H x H' ∧ tn (i + 1) s2.heap ∧ ∀ b ∈ fp, H' b = none) E s1) E s
  done : ∀ (X : Cx), X.prog = P → X.w = w → X.K = K → X.calm = true → ∀ (i : Nat) (pins : List (Addr × Obj)) (s : Shared) (σ : St) (H : Hp) (E : Value → Shared → Prop), Inv X pins σ H s → (∀ b ∈ fp, FpOk X pins H b) → tn i s.heap → J.stop i H →
    wpAny (model P w) X.A (pyNext (.ref it)) (fun r s1 => r = none ∧ Inv X pins σ H s1) E s
  self : ∀ (A : Around) (i : Nat) (s : Shared) (Q : Value → Shared → Prop) (E : Value → Shared → Prop), tn i s.heap → Q (.ref it) s → wpAny (model P w) A (pyIter (.ref it)) Q E s
abbrev TI := St → Hp → (It → Hp → Prop) → Prop
def PIE (X : Cx) (pins : List (Addr × Obj)) (σ : St) (tg : Expr) (R : It → Hp → Prop) (itv : Value) (s2 : Shared) : Prop :=
  ∃ (it : Addr) (fp : List Addr) (tn : Nat → Heap → Prop) (J : It) (H' : Hp), itv = .ref it ∧ Inv X pins σ H' s2 ∧ Turn X.prog X.w X.K tg J fp it tn ∧ tn 0 s2.heap ∧ (∀ b ∈ fp, FpOk X pins H' b) ∧ R J H'
def PI (X : Cx) (tg iter : Expr) (wi : TI) : Prop :=
  ∀ (pins : List (Addr × Obj)) (s : Shared) (σ : St) (H : Hp) (R : It → Hp → Prop), Inv X pins σ H s → wi σ H R →
    wpAny (model X.prog X.w) X.A (eval iter X.env) (fun v s1 => wpAny (model X.prog X.w) X.A (pyIter v) (PIE X pins σ tg R) X.xe s1) X.xe s

theorem go_of {M : Model} {A : Around} {E : Value → Shared → Prop} {s : Shared} {tg : Expr} {it : Addr} {u : Value} {o : Obj} {n : String} {vs : Array Value} {Q : Unit → Shared → Prop} (ho : s.heap.get? it = some o) (hc : o.cls = .type n) (hd : o.data = .fields vs)
    (hn : ["enumerate", "zip", "dict_itemiterator", "dict_reverseitemiterator", "odict_iterator", "itertools.zip_longest", "itertools.pairwise"].contains n = false) (hQ : Q () s) : wpAny M A (letOwnedTupleGo tg (.ref it) u) Q E s := by
  unfold letOwnedTupleGo
  cases tg <;> first
    | exact wpAny_pure hQ
    | (cases u <;> first
        | exact wpAny_pure hQ
        | (refine wpAny_bind (wpAny_load ho ?_)
           rw [hc, hd]
           show wpAny M A (if (["enumerate", "zip", "dict_itemiterator", "dict_reverseitemiterator", "odict_iterator", "itertools.zip_longest", "itertools.pairwise"].contains n && vs[0]? == some (rawInt _)) = true then _ else _) Q E s
           rw [if_neg (by intro h; rw [hn, Bool.false_and] at h; cases h)]
           exact wpAny_pure hQ))

def Itl (K : PySem.W.Frag) (a : Addr) : It :=
  ⟨fun i H => ∃ xs x, SqL K H a xs ∧ xs[i]? = some x, fun i H x H' => H' = H ∧ ∀ xs, SqL K H a xs → xs[i]? = some x, fun i H => ∃ xs, SqL K H a xs ∧ xs.length ≤ i⟩
def Itt (K : PySem.W.Frag) (a : Addr) : It :=
  ⟨fun i H => ∃ xs x, SqT K H a xs ∧ xs[i]? = some x, fun i H x H' => H' = H ∧ ∀ xs, SqT K H a xs → xs[i]? = some x, fun i H => ∃ xs, SqT K H a xs ∧ xs.length ≤ i⟩
def Itr (lo : Int) (n : Nat) : It := ⟨fun i _ => i < n, fun i H x H' => H' = H ∧ x = .int (lo + i), fun i _ => n ≤ i⟩
theorem turn_list {P : Program} {w : World} {K : PySem.W.Frag} {tg : Expr} (a it : Addr) : Turn P w K tg (Itl K a) [it] it (fun i h => h.IsListIter it a i) where
  mem := by simp
  obj := fun i h st b hb => by
    have e : b = it := by simpa using hb
    subst e
    obtain ⟨o, e, c, d⟩ := st
    exact ⟨o, e, fun v z => by rw [d] at z; cases z⟩
  keep := fun i h h' st k => st.at fun o e => k it (by simp) o e
  item := by
    intro X hP hw hK hc i pins s σ H E I hf st hg
    subst hP hw hK
    obtain ⟨xs, x, hq, hx⟩ := hg
    obtain ⟨its, rv, p, hz⟩ := I.list hq
    obtain ⟨u, hu, ru⟩ := rv.get hx
    obtain ⟨f0, f1, f2, f3, f4, f5⟩ := hf it (by simp)
    refine wpAny_pyNext_list_item st p.isList (x := u) (by simpa using hu) fun h' st' sb => ?_
    have I1 : Inv X pins σ H { s with heap := h' } := I.turned (t' := s.toks) (fun b o hb e => (sb.2 b hb).trans e) f0 f1 f3 f4 f5
    obtain ⟨o, e, c, d⟩ := id st'
    exact ⟨u, rfl, go_of (s := { s with heap := h' }) e c d (by decide) ⟨x, H, I1, ru, ⟨rfl, fun ys hy => by rw [I.list_inj hy hq]; exact hx⟩, st', fun b hb => (hf b hb).1⟩⟩
  done := by
    intro X hP hw hK hc i pins s σ H E I hf st hg
    subst hP hw hK
    obtain ⟨xs, hq, hx⟩ := hg
    obtain ⟨its, rv, p, hz⟩ := I.list hq
    obtain ⟨f0, f1, f2, f3, f4, f5⟩ := hf it (by simp)
    have hl := rv.length
    exact wpAny_pyNext_list_end (I.ok.hd hc) st p.isList (by simp; omega) fun h' eb => ⟨rfl, I.turned (t' := s.toks) (fun b o hb e => eb b o hb e) f0 f1 f3 f4 f5⟩
  self := fun _ _ _ _ _ st h => wpAny_pyIter_listiter st h
theorem turn_tuple {P : Program} {w : World} {K : PySem.W.Frag} {tg : Expr} (a it : Addr) : Turn P w K tg (Itt K a) [it] it (fun i h => h.IsTupleIter it a i) where
  mem := by simp
  obj := fun i h st b hb => by
    have e : b = it := by simpa using hb
    subst e
    obtain ⟨o, e, c, d⟩ := st
    exact ⟨o, e, fun v z => by rw [d] at z; cases z⟩
  keep := fun i h h' st k => st.at fun o e => k it (by simp) o e
  item := by
    intro X hP hw hK hc i pins s σ H E I hf st hg
    subst hP hw hK
    obtain ⟨xs, x, hq, hx⟩ := hg
    obtain ⟨its, rv, p, hz⟩ := I.tuple hq
    obtain ⟨u, hu, ru⟩ := rv.get hx
    obtain ⟨f0, f1, f2, f3, f4, f5⟩ := hf it (by simp)
    refine wpAny_pyNext_tuple_item st (show s.heap.IsTuple a its.toArray from p) (x := u) (by simpa using hu) fun h' st' sb => ?_
    have I1 : Inv X pins σ H { s with heap := h' } := I.turned (t' := s.toks) (fun b o hb e => (sb.2 b hb).trans e) f0 f1 f3 f4 f5
    obtain ⟨o, e, c, d⟩ := id st'
    exact ⟨u, rfl, go_of (s := { s with heap := h' }) e c d (by decide) ⟨x, H, I1, ru, ⟨rfl, fun ys hy => by rw [I.tuple_inj hy hq]; exact hx⟩, st', fun b hb => (hf b hb).1⟩⟩
  done := by
    intro X hP hw hK hc i pins s σ H E I hf st hg
    subst hP hw hK
    obtain ⟨xs, hq, hx⟩ := hg
    obtain ⟨its, rv, p, hz⟩ := I.tuple hq
    obtain ⟨f0, f1, f2, f3, f4, f5⟩ := hf it (by simp)
    have hl := rv.length
    exact wpAny_pyNext_tuple_end (I.ok.hd hc) st (show s.heap.IsTuple a its.toArray from p) (by simp; omega) fun h' eb => ⟨rfl, I.turned (t' := s.toks) (fun b o hb e => eb b o hb e) f0 f1 f3 f4 f5⟩
  self := fun _ _ _ _ _ st h => wpAny_pyIter_tupleiter st h
theorem turn_range {P : Program} {w : World} {K : PySem.W.Frag} {tg : Expr} (it : Addr) (lo : Int) (n : Nat) : Turn P w K tg (Itr lo n) [it] it (fun i h => IsRangeIter h it (lo + (i : Nat) * 1) ((n : Int) - (i : Nat)) 1) where
  mem := by simp
  obj := fun i h st b hb => by
    have e : b = it := by simpa using hb
    subst e
    exact ⟨_, st, fun v z => by
      have z' : Data.fields _ = Data.cell v := z
      cases z'⟩
  keep := fun i h h' st k => k it (by simp) _ st
  item := by
    intro X hP hw hK hc i pins s σ H E I hf st hg
    subst hP hw hK
    obtain ⟨f0, f1, f2, f3, f4, f5⟩ := hf it (by simp)
    have W := Walks.range (prog := X.prog) (w := X.w) (I.ok.hd hc) it lo 1 n
    refine W.item i s _ _ hg st fun v h' tk hv st' kk => ?_
    obtain ⟨t, rfl⟩ := hv
    have I1 : Inv X pins σ H { s with heap := h', toks := tk } := I.turned (fun b o hb e => kk b o (by simpa using hb) e) f0 f1 f3 f4 f5
    refine ⟨_, rfl, go_of (s := { s with heap := h', toks := tk }) (n := "range_iterator") st' rfl rfl (by decide) ⟨.int (lo + i), H, I1, ⟨t, ?_⟩, ⟨rfl, rfl⟩, st', fun b hb => (hf b hb).1⟩⟩
    rw [Int.mul_one]
  done := by
    intro X hP hw hK hc i pins s σ H E I hf st hg
    subst hP hw hK
    obtain ⟨f0, f1, f2, f3, f4, f5⟩ := hf it (by simp)
    exact wpAny_pyNext_range_end (I.ok.hd hc) st (by have : n ≤ i := hg; omega) fun h' eb => ⟨rfl, I.turned (t' := s.toks) (fun b o hb e => eb b o hb e) f0 f1 f3 f4 f5⟩
  self := fun _ _ _ _ _ st h => wpAny_pyIter_rangeiter st h
end L2

namespace L2
open PySem PySem.Spec PyProof.Rows
section
variable {X : Cx} {tg : Expr}
def iList (K : PySem.W.Frag) (tl : TE) : TI := fun σ H R => tl σ H fun x H1 => ∃ a, x = .ref a ∧ (∃ xs, SqL K H1 a xs) ∧ R (Itl K a) H1
def iTup (K : PySem.W.Frag) (tl : TE) : TI := fun σ H R => tl σ H fun x H1 => ∃ a, x = .ref a ∧ (∃ xs, SqT K H1 a xs) ∧ R (Itt K a) H1
theorem range_it {pins : List (Addr × Obj)} {σ : St} {H : Hp} {s : Shared} {R : It → Hp → Prop} {E : Value → Shared → Prop} {lo hi : Int} {t u v : Tok} {tk : Nat} (I : Inv X pins σ H s) (h1 : -(2 ^ 62) ≤ lo) (h2 : lo < 2 ^ 62) (h3 : -(2 ^ 62) ≤ hi) (h4 : hi < 2 ^ 62)
    (q : R (Itr lo (hi - lo).toNat) H) : wpAny (model X.prog X.w) X.A (pyIter (.ref s.heap.objs.size)) (PIE X pins σ tg R) E { s with heap := s.heap.push { cls := .type "range", data := .fields #[.int lo t, .int hi u, .int 1 v] }, toks := tk } := by
  refine wpAny_pyIter_range (IsRange.new ..) (small_one h1 h2 h3 h4) ?_
  have I1 : Inv X pins σ H { s with heap := s.heap.push { cls := .type "range", data := .fields #[.int lo t, .int hi u, .int 1 v] }, toks := tk } := I.kept fun b o e => Heap.get?_push_of_some _ e
  refine ⟨(s.heap.push { cls := .type "range", data := .fields #[.int lo t, .int hi u, .int 1 v] }).objs.size, [(s.heap.push { cls := .type "range", data := .fields #[.int lo t, .int hi u, .int 1 v] }).objs.size], _, _, H, rfl,
    I1.kept (t' := tk) fun b o e => Heap.get?_push_of_some _ e, turn_range _ lo (hi - lo).toNat, ?_, fun b hb => ?_, q⟩
  · have e1 : lo + ((0 : Nat) : Int) * 1 = lo := by simp
    have e2 : (((hi - lo).toNat : Nat) : Int) - ((0 : Nat) : Int) = Builtin.Range.rangeSize lo hi 1 := by rw [rangeSize_one]; split <;> omega
    show IsRangeIter _ _ (lo + ((0 : Nat) : Int) * 1) ((((hi - lo).toNat : Nat) : Int) - ((0 : Nat) : Int)) 1
    rw [e1, e2]
    exact Heap.get?_push_size _ rfl
  · have e : b = (s.heap.push { cls := .type "range", data := .fields #[.int lo t, .int hi u, .int 1 v] }).objs.size := by simpa using hb
    subst e
    exact I1.fpOk (Nat.le_refl _) (I1.hok.fresh (Nat.le_refl _))
def iRng1 (ta : TA) : TI := fun σ H R => ta σ H fun vs H1 => ∃ j : Int, vs = [.int j] ∧ -(2 ^ 62) ≤ j ∧ j < 2 ^ 62 ∧ R (Itr 0 j.toNat) H1
def iRng2 (ta : TA) : TI := fun σ H R => ta σ H fun vs H1 => ∃ i j : Int, vs = [.int i, .int j] ∧ (-(2 ^ 62) ≤ i ∧ i < 2 ^ 62 ∧ -(2 ^ 62) ≤ j ∧ j < 2 ^ 62) ∧ R (Itr i (j - i).toNat) H1
theorem pi_range1 {a : Expr} {ta : TA} {p pos : Pos} (hg : Gl X "range") (hm : X.mg "range" = none) (ha : PA X [a] ta) (hs : starEach [a] X.env = [(false, eval a X.env)] := by rfl) : PI X tg (.Call (.Name "range" p) [a] [] pos) (iRng1 ta) := by
  intro pins s σ H R I h
  refine Call_ (ld_blt I hg hm boot_range (PyProof.Rows.callWith_type1 (thn (ha pos pins s σ H _ I h) fun us s1 ⟨vs, H1, I1, r1, q1⟩ => ?_) hs rfl))
  obtain ⟨j, e, q1, q2, q⟩ := q1
  subst e
  cases r1 with
  | cons r rr =>
    cases rr
    obtain ⟨t, rfl⟩ := r
    exact call_range_1 (range_it I1 (by omega) (by omega) q1 q2 (by simpa using q))
theorem pi_range2 {a b : Expr} {ta : TA} {p pos : Pos} (hg : Gl X "range") (hm : X.mg "range" = none) (ha : PA X [a, b] ta) (hs : starEach [a, b] X.env = [(false, eval a X.env), (false, eval b X.env)] := by rfl) (hs2 : starEach [b] X.env = [(false, eval b X.env)] := by rfl) :
    PI X tg (.Call (.Name "range" p) [a, b] [] pos) (iRng2 ta) := by
  intro pins s σ H R I h
  refine Call_ (ld_blt I hg hm boot_range (PyProof.Rows.callWith_type1 (thn (ha pos pins s σ H _ I h) fun us s1 ⟨vs, H1, I1, r1, q1⟩ => ?_) (by rw [hs, hs2]) (by rw [hs2]; rfl)))
  obtain ⟨i, j, e, ⟨q1, q2, q3, q4⟩, q⟩ := q1
  subst e
  cases r1 with
  | cons r rr =>
    cases rr with
    | cons r' rr =>
      cases rr
      obtain ⟨t, rfl⟩ := r
      obtain ⟨t', rfl⟩ := r'
      exact call_range_2 (range_it I1 q1 q2 q3 q4 q)

def tFor (wi : TI) (g : TG) (tb : TS) : TS := fun D σ H => wi σ H fun J H1 => ∃ W : Nat → Nat → St → Hp → Prop, (∃ m, W 0 m σ H1) ∧ ∀ i m σ H, W i m σ H →
  (J.stop i H ∧ D.nx σ H) ∨ (J.go i H ∧ ∃ N : St → Hp → Prop, (∀ σ' H', N σ' H' → ∃ m', m' < m ∧ W (i + 1) m' σ' H') ∧ ∀ x H', J.yld i H x H' → g x σ H' fun σ2 H2 => tb { D with nx := N, ct := N, bk := D.nx } σ2 H2)
def pinsAt (fp : List Addr) (h : Heap) : List (Addr × Obj) := fp.filterMap fun b => (h.get? b).map fun o => (b, o)
theorem mem_pinsAt {fp : List Addr} {h : Heap} {b : Addr} {o : Obj} (hb : b ∈ fp) (e : h.get? b = some o) : (b, o) ∈ pinsAt fp h := List.mem_filterMap.mpr ⟨b, hb, by rw [e]; rfl⟩
theorem of_pinsAt {fp : List Addr} {h : Heap} {p : Addr × Obj} (hp : p ∈ pinsAt fp h) : p.1 ∈ fp ∧ h.get? p.1 = some p.2 := by
  obtain ⟨b, hb, e⟩ := List.mem_filterMap.mp hp
  cases q : h.get? b with
  | none => rw [q] at e; cases e
  | some o =>
    rw [q] at e
    have e' : (b, o) = p := Option.some.inj e
    subst e'
    exact ⟨hb, q⟩
theorem Inv.pinned {pins : List (Addr × Obj)} {σ : St} {H : Hp} {s : Shared} {fp : List Addr} (I : Inv X pins σ H s) (hf : ∀ b ∈ fp, FpOk X pins H b) (ho : ∀ b ∈ fp, ∃ o, s.heap.get? b = some o ∧ ∀ v, o.data ≠ .cell v) : Inv X (pins ++ pinsAt fp s.heap) σ H s :=
  I.pins_of fun p hp => (List.mem_append.mp hp).elim (fun z => I.pin p (List.mem_append_right _ z)) fun z => by
    obtain ⟨hb, e⟩ := of_pinsAt z
    obtain ⟨f0, f1, f2, _⟩ := hf p.1 hb
    obtain ⟨o, e', d⟩ := ho p.1 hb
    rw [e] at e'; cases e'
    exact ⟨e, f0, f1, f2, d⟩
theorem Inv.unpinned {pins pl : List (Addr × Obj)} {σ : St} {H : Hp} {s : Shared} (I : Inv X (pins ++ pl) σ H s) : Inv X pins σ H s := I.pins_of fun p hp => I.pin p (List.mem_append_right _ (List.mem_append_left _ hp))
theorem ps_for {iter : Expr} {body : List Stmt} {wi : TI} {g : TG} {tb : TS} {pos : Pos} (hp : PassesOwn (model X.prog X.w) X.A X.env X.xe) (hc : X.calm = true) (hi : PI X tg iter wi) (hg : PG X tg g) (hb : PSs X body tb)
    (hs : ∀ x, foldedSetIterable iter X.env x = pure x := by intro _; rfl) : PS X (.For tg iter body [] pos) (tFor wi g tb) := by
  intro pins s σ H D I h
  refine wpAny_For (thn (hi pins s σ H _ I h) fun v s1 h1 => thn h1 fun itv s2 h2 => ?_) hs
  obtain ⟨it, fp, tn, J, H2, e, I2, T, st2, f2, W, ⟨m0, w0⟩, turn⟩ := h2
  subst e
  -- what stays true of the iterator's objects through the loop
  have stat : ∀ {H' : Hp}, (∀ b ∈ fp, H' b = none) → ∀ b ∈ fp, FpOk X pins H' b := fun hn b hb => ⟨hn b hb, (f2 b hb).2⟩
  refine codeAny_forLoop_any (fun n s' => ∃ i σ' H', Inv X pins σ' H' s' ∧ tn i s'.heap ∧ (∀ b ∈ fp, H' b = none) ∧ W i n σ' H') ?_ m0 ⟨0, σ, H2, I2, st2, fun b hb => (f2 b hb).1, w0⟩
  rintro n s3 ⟨i, σ3, H3, I3, st3, fr3, w3⟩
  rcases turn i n σ3 H3 w3 with ⟨stop, qn⟩ | ⟨go, N, hN, step⟩
  · refine wpAny_passesOwn hp (thn (T.done X rfl rfl rfl hc i pins s3 σ3 H3 X.xe I3 (stat fr3) st3 stop) fun r s4 ⟨hr, I4⟩ => ?_)
    subst hr
    exact wpAny_execs_nil ⟨σ3, H3, I4, qn⟩
  · refine wpAny_passesOwn hp (thn (T.item X rfl rfl rfl hc i pins s3 σ3 H3 X.xe I3 (stat fr3) st3 go) fun r s4 ⟨u, hr, h4⟩ => ?_)
    subst hr
    refine wpAny_passesOwn hp (thn h4 fun _ s5 ⟨x, H5, I5, r5, y5, st5, fr5⟩ => ?_)
    have I5' := I5.pinned (stat fr5) (T.obj _ _ st5)
    refine wpAny_passesOwn hp (thn (hg _ s5 σ3 H5 x u _ I5' r5 (step x H5 y5)) fun _ s6 ⟨σ6, H6, I6, q6⟩ => ?_)
    refine wpAny_passesOwn hp (thn (hb _ s6 σ6 H6 _ I6 q6) fun f s7 q7 => ?_)
    have again : ∀ {σ7 : St} {H7 : Hp}, Inv X (pins ++ pinsAt fp s5.heap) σ7 H7 s7 → N σ7 H7 → ∃ m, m < n ∧ ∃ i σ' H', Inv X pins σ' H' s7 ∧ tn i s7.heap ∧ (∀ b ∈ fp, H' b = none) ∧ W i m σ' H' := fun {σ7 H7} I7 n7 => by
      obtain ⟨m', hm, w7⟩ := hN σ7 H7 n7
      refine ⟨m', hm, i + 1, σ7, H7, I7.unpinned, T.keep _ _ _ st5 fun b hb o e => (I7.pin (b, o) (List.mem_append_right _ (List.mem_append_right _ (mem_pinsAt hb e)))).1, fun b hb => ?_, w7⟩
      obtain ⟨o, e, d⟩ := T.obj _ _ st5 b hb
      exact (I7.pin (b, o) (List.mem_append_right _ (List.mem_append_right _ (mem_pinsAt hb e)))).2.1
    cases f with
    | next => obtain ⟨σ7, H7, I7, n7⟩ := q7; exact again I7 n7
    | cont => obtain ⟨σ7, H7, I7, n7⟩ := q7; exact again I7 n7
    | brk => obtain ⟨σ7, H7, I7, q7⟩ := q7; exact ⟨σ7, H7, I7.unpinned, q7⟩
    | ret v => obtain ⟨x7, σ7, H7, I7, r7, q7⟩ := q7; exact ⟨x7, σ7, H7, I7.unpinned, r7, q7⟩
end

theorem for_list {K : PySem.W.Frag} {a : Addr} {xs : List V} {g : TG} {tb : TS} {D : Ends} {σ : St} {H : Hp} (Pv : Nat → St → Hp → Prop) (h0 : Pv 0 σ H) (hl : ∀ i σ H, i ≤ xs.length → Pv i σ H → SqL K H a xs)
    (hs : ∀ i x σ H, xs[i]? = some x → Pv i σ H → g x σ H fun σ2 H2 => tb { D with nx := Pv (i + 1), ct := Pv (i + 1), bk := D.nx } σ2 H2) (hd : ∀ σ H, Pv xs.length σ H → D.nx σ H) :
    ∃ W : Nat → Nat → St → Hp → Prop, (∃ m, W 0 m σ H) ∧ ∀ i m σ H, W i m σ H →
      ((Itl K a).stop i H ∧ D.nx σ H) ∨ ((Itl K a).go i H ∧ ∃ N : St → Hp → Prop, (∀ σ' H', N σ' H' → ∃ m', m' < m ∧ W (i + 1) m' σ' H') ∧ ∀ x H', (Itl K a).yld i H x H' → g x σ H' fun σ2 H2 => tb { D with nx := N, ct := N, bk := D.nx } σ2 H2) := by
  refine ⟨fun i m σ H => m = xs.length - i ∧ i ≤ xs.length ∧ Pv i σ H, ⟨xs.length, by simp, Nat.zero_le _, h0⟩, ?_⟩
  rintro i m σ H ⟨rfl, hi, p⟩
  have q := hl i σ H hi p
  by_cases hlt : i < xs.length
  · refine .inr ⟨⟨xs, xs[i], q, by simp [hlt]⟩, Pv (i + 1), fun σ' H' p' => ⟨xs.length - (i + 1), by omega, rfl, hlt, p'⟩, fun x H' y => ?_⟩
    obtain ⟨e, y⟩ := y
    subst e
    exact hs i x σ _ (y xs q) p
  · have e : i = xs.length := by omega
    subst e
    exact .inl ⟨⟨xs, q, Nat.le_refl _⟩, hd σ H p⟩
theorem for_tup {K : PySem.W.Frag} {a : Addr} {xs : List V} {g : TG} {tb : TS} {D : Ends} {σ : St} {H : Hp} (Pv : Nat → St → Hp → Prop) (h0 : Pv 0 σ H) (hl : ∀ i σ H, i ≤ xs.length → Pv i σ H → SqT K H a xs)
    (hs : ∀ i x σ H, xs[i]? = some x → Pv i σ H → g x σ H fun σ2 H2 => tb { D with nx := Pv (i + 1), ct := Pv (i + 1), bk := D.nx } σ2 H2) (hd : ∀ σ H, Pv xs.length σ H → D.nx σ H) :
    ∃ W : Nat → Nat → St → Hp → Prop, (∃ m, W 0 m σ H) ∧ ∀ i m σ H, W i m σ H →
      ((Itt K a).stop i H ∧ D.nx σ H) ∨ ((Itt K a).go i H ∧ ∃ N : St → Hp → Prop, (∀ σ' H', N σ' H' → ∃ m', m' < m ∧ W (i + 1) m' σ' H') ∧ ∀ x H', (Itt K a).yld i H x H' → g x σ H' fun σ2 H2 => tb { D with nx := N, ct := N, bk := D.nx } σ2 H2) := by
  refine ⟨fun i m σ H => m = xs.length - i ∧ i ≤ xs.length ∧ Pv i σ H, ⟨xs.length, by simp, Nat.zero_le _, h0⟩, ?_⟩
  rintro i m σ H ⟨rfl, hi, p⟩
  have q := hl i σ H hi p
  by_cases hlt : i < xs.length
  · refine .inr ⟨⟨xs, xs[i], q, by simp [hlt]⟩, Pv (i + 1), fun σ' H' p' => ⟨xs.length - (i + 1), by omega, rfl, hlt, p'⟩, fun x H' y => ?_⟩
    obtain ⟨e, y⟩ := y
    subst e
    exact hs i x σ _ (y xs q) p
  · have e : i = xs.length := by omega
    subst e
    exact .inl ⟨⟨xs, q, Nat.le_refl _⟩, hd σ H p⟩
theorem for_range {lo : Int} {n : Nat} {g : TG} {tb : TS} {D : Ends} {σ : St} {H : Hp} (Pv : Nat → St → Hp → Prop) (h0 : Pv 0 σ H)
    (hs : ∀ i σ H, i < n → Pv i σ H → g (.int (lo + i)) σ H fun σ2 H2 => tb { D with nx := Pv (i + 1), ct := Pv (i + 1), bk := D.nx } σ2 H2) (hd : ∀ σ H, Pv n σ H → D.nx σ H) :
    ∃ W : Nat → Nat → St → Hp → Prop, (∃ m, W 0 m σ H) ∧ ∀ i m σ H, W i m σ H →
      ((Itr lo n).stop i H ∧ D.nx σ H) ∨ ((Itr lo n).go i H ∧ ∃ N : St → Hp → Prop, (∀ σ' H', N σ' H' → ∃ m', m' < m ∧ W (i + 1) m' σ' H') ∧ ∀ x H', (Itr lo n).yld i H x H' → g x σ H' fun σ2 H2 => tb { D with nx := N, ct := N, bk := D.nx } σ2 H2) := by
  refine ⟨fun i m σ H => m = n - i ∧ i ≤ n ∧ Pv i σ H, ⟨n, by simp, Nat.zero_le _, h0⟩, ?_⟩
  rintro i m σ H ⟨rfl, hi, p⟩
  by_cases hlt : i < n
  · refine .inr ⟨hlt, Pv (i + 1), fun σ' H' p' => ⟨n - (i + 1), by omega, rfl, hlt, p'⟩, fun x H' y => ?_⟩
    obtain ⟨e, y⟩ := y
    subst e y
    exact hs i σ _ hlt p
  · have e : i = n := by omega
    subst e
    exact .inl ⟨Nat.le_refl _, hd σ H p⟩
end L2

namespace L2
open PySem PySem.Spec PyProof.Rows

abbrev R2 := V → V → Hp → VK → Prop
def OpR (X : Cx) (f : Value → Value → Sem Value) (r : R2) : Prop :=
  ∀ (pins : List (Addr × Obj)) (s : Shared) (σ : St) (H : Hp) (x y : V) (v u : Value) (Q : VK), Inv X pins σ H s → RelV x v → RelV y u → r x y H Q →
    wpAny (model X.prog X.w) X.A (f v u) (EP X pins σ Q) X.xe s
def UnR (X : Cx) (f : Value → Sem Value) (r : V → Hp → VK → Prop) : Prop :=
  ∀ (pins : List (Addr × Obj)) (s : Shared) (σ : St) (H : Hp) (x : V) (v : Value) (Q : VK), Inv X pins σ H s → RelV x v → r x H Q →
    wpAny (model X.prog X.w) X.A (f v) (EP X pins σ Q) X.xe s
def CallR (X : Cx) (f : Value) (r : List V → Hp → VK → Prop) : Prop :=
  ∀ (pins : List (Addr × Obj)) (s : Shared) (σ : St) (H : Hp) (xs : List V) (us : List Value) (Q : VK), Inv X pins σ H s → Vals xs us → r xs H Q →
    wpAny (model X.prog X.w) X.A (call f us) (EP X pins σ Q) X.xe s
def TruR (X : Cx) (r : V → Hp → (Bool → Hp → Prop) → Prop) : Prop :=
  ∀ (pins : List (Addr × Obj)) (s : Shared) (σ : St) (H : Hp) (x : V) (v : Value) (Q : Bool → Hp → Prop), Inv X pins σ H s → RelV x v → r x H Q →
    wpAny (model X.prog X.w) X.A (truthy v) (TP X pins σ Q) X.xe s

def tOp (r : R2) (ta tb : TE) : TE := fun σ H Q => ta σ H fun x H1 => tb σ H1 fun y H2 => r x y H2 Q
def tUn (r : V → Hp → VK → Prop) (ta : TE) : TE := fun σ H Q => ta σ H fun x H1 => r x H1 Q
def rI (C : Int → Int → Prop) (g : Int → Int → V) : R2 := fun x y H Q => ∃ i j, x = .int i ∧ y = .int j ∧ C i j ∧ Q (g i j) H
def rI0 (g : Int → Int → V) : R2 := fun x y H Q => ∃ i j, x = .int i ∧ y = .int j ∧ Q (g i j) H
def rU (g : Int → V) : V → Hp → VK → Prop := fun x H Q => ∃ i, x = .int i ∧ Q (g i) H

section
variable {X : Cx} {a b c : Expr} {ta tb tc : TE} {pos : Pos}

theorem binT (ha : PE X a ta) (hb : PE X b tb) {pins : List (Addr × Obj)} {s : Shared} {σ : St} {H : Hp} {R : V → V → Hp → Prop} (I : Inv X pins σ H s)
    (h : ta σ H fun x H1 => tb σ H1 fun y H2 => R x y H2) {Q : Value → Shared → Prop} {f : Value → Value → Sem Value}
    (hf : ∀ v u s2 x y H2, Inv X pins σ H2 s2 → RelV x v → RelV y u → R x y H2 → wpAny (model X.prog X.w) X.A (f v u) Q X.xe s2) :
    wpAny (model X.prog X.w) X.A (eval a X.env) (fun v s₁ => wpAny (model X.prog X.w) X.A (eval b X.env) (fun u s₂ => wpAny (model X.prog X.w) X.A (f v u) Q X.xe s₂) X.xe s₁) X.xe s := by
  refine thn (ha pins s σ H _ I h) fun v s1 ⟨x, H1, I1, r1, q1⟩ => ?_
  refine thn (hb pins s1 σ H1 _ I1 q1) fun u s2 ⟨y, H2, I2, r2, q2⟩ => ?_
  exact hf v u s2 x y H2 I2 r1 r2 q2

theorem pe_op {op : Operator} {r : R2} (ho : OpR X (binaryOp op) r) (ha : PE X a ta) (hb : PE X b tb) : PE X (.BinOp a op b pos) (tOp r ta tb) := by
  intro pins s σ H Q I h
  exact wpAny_BinOp (binT ha hb I h fun v u s2 x y H2 I2 rx ry q => ho pins s2 σ H2 x y v u Q I2 rx ry q)
theorem pe_un {op : UnaryOp} {r : V → Hp → VK → Prop} (ho : UnR X (unaryOp op) r) (ha : PE X a ta) : PE X (.UnaryOp op a pos) (tUn r ta) := by
  intro pins s σ H Q I h
  exact UnaryOp_ (thn (ha pins s σ H _ I h) fun v s1 ⟨x, H1, I1, r1, q1⟩ => ho pins s1 σ H1 x v Q I1 r1 q1)
theorem opI {f : Value → Value → Sem Value} {C : Int → Int → Prop} {g : Int → Int → Int}
    (rule : ∀ (i j : Int) (t u : Tok) (s : Shared) (Q : Value → Shared → Prop) (E : Value → Shared → Prop), C i j → Q (.int (g i j) s.toks) { s with toks := s.toks + 1 } → wpAny (model X.prog X.w) X.A (f (.int i t) (.int j u)) Q E s) :
    OpR X f (rI C fun i j => .int (g i j)) := by
  intro pins s σ H x y v u Q I rx ry h
  obtain ⟨i, j, rfl, rfl, hc, q⟩ := h
  obtain ⟨t, rfl⟩ := rx
  obtain ⟨t', rfl⟩ := ry
  exact rule i j t t' s _ _ hc ⟨.int (g i j), H, I.tok _, ⟨_, rfl⟩, q⟩
theorem opI0 {f : Value → Value → Sem Value} {g : Int → Int → Int}
    (rule : ∀ (i j : Int) (t u : Tok) (s : Shared) (Q : Value → Shared → Prop) (E : Value → Shared → Prop), Q (.int (g i j) s.toks) { s with toks := s.toks + 1 } → wpAny (model X.prog X.w) X.A (f (.int i t) (.int j u)) Q E s) :
    OpR X f (rI0 fun i j => .int (g i j)) := by
  intro pins s σ H x y v u Q I rx ry h
  obtain ⟨i, j, rfl, rfl, q⟩ := h
  obtain ⟨t, rfl⟩ := rx
  obtain ⟨t', rfl⟩ := ry
  exact rule i j t t' s _ _ ⟨.int (g i j), H, I.tok _, ⟨_, rfl⟩, q⟩
theorem opB0 {f : Value → Value → Sem Value} {g : Int → Int → Bool}
    (rule : ∀ (i j : Int) (t u : Tok) (s : Shared) (Q : Value → Shared → Prop) (E : Value → Shared → Prop), Q (.bool (g i j)) s → wpAny (model X.prog X.w) X.A (f (.int i t) (.int j u)) Q E s) :
    OpR X f (rI0 fun i j => .bl (g i j)) := by
  intro pins s σ H x y v u Q I rx ry h
  obtain ⟨i, j, rfl, rfl, q⟩ := h
  obtain ⟨t, rfl⟩ := rx
  obtain ⟨t', rfl⟩ := ry
  exact rule i j t t' s _ _ ⟨.bl (g i j), H, I, rfl, q⟩

def CDiv (i j : Int) : Prop := 0 < j ∧ j < 1073741824
def CDivN (i j : Int) : Prop := j ≠ 0 ∧ j.natAbs < 1073741824
def CPow (i j : Int) : Prop := 0 ≤ j ∧ j ≤ 1000000 ∧ i.natAbs < 2 ^ 64
def CMul (i j : Int) : Prop := (-(2 ^ 64) < i ∧ i < 2 ^ 64) ∨ (-(2 ^ 64) < j ∧ j < 2 ^ 64)
theorem op_add : OpR X (binaryOp .Add) (rI0 fun i j => .int (i + j)) := opI0 fun _ _ _ _ _ _ _ q => add_int q
theorem op_sub : OpR X (binaryOp .Sub) (rI0 fun i j => .int (i - j)) := opI0 fun _ _ _ _ _ _ _ q => sub_int q
theorem op_modN : OpR X (binaryOp .Mod) (rI (fun _ j => j ≠ 0) fun i j => .int (i.fmod j)) := opI fun _ _ _ _ _ _ _ hc q => mod_int' hc q
theorem unI {f : Value → Sem Value} {g : Int → Int}
    (rule : ∀ (i : Int) (t : Tok) (s : Shared) (Q : Value → Shared → Prop) (E : Value → Shared → Prop), Q (.int (g i) s.toks) { s with toks := s.toks + 1 } → wpAny (model X.prog X.w) X.A (f (.int i t)) Q E s) :
    UnR X f (rU fun i => .int (g i)) := by
  intro pins s σ H x v Q I rx h
  obtain ⟨i, rfl, q⟩ := h
  obtain ⟨t, rfl⟩ := rx
  exact rule i t s _ _ ⟨.int (g i), H, I.tok _, ⟨_, rfl⟩, q⟩
theorem un_neg : UnR X (unaryOp .USub) (rU fun i => .int (-i)) := unI fun _ _ _ _ _ q => neg_int q
end

def scal : V → V → Bool
  | .non, .non => true | .non, .int _ => true | .int _, .non => true | .non, .bl _ => true | .bl _, .non => true | .non, .str _ => true | .str _, .non => true
  | .int _, .int _ => true | .bl _, .bl _ => true | .str _, .str _ => true | .byt _, .byt _ => true
  | .int _, .str _ => true | .str _, .int _ => true | .bl _, .str _ => true | .str _, .bl _ => true
  | _, _ => false
def rEq : R2 := fun x y H Q => scal x y = true ∧ Q (.bl (decide (x = y))) H
def rNe : R2 := fun x y H Q => scal x y = true ∧ Q (.bl (!decide (x = y))) H

section
variable {X : Cx} {a b c : Expr} {ta tb tc : TE} {pos : Pos}
theorem op_lt : OpR X (compareOp .Lt) (rI0 fun i j => .bl (decide (i < j))) := opB0 fun _ _ _ _ _ _ _ q => lt_int q
theorem op_gt : OpR X (compareOp .Gt) (rI0 fun i j => .bl (decide (j < i))) := opB0 fun _ _ _ _ _ _ _ q => gt_int q
def isObj : HO → Bool
  | .lst _ => true
  | .ins _ _ _ => true
  | _ => false
theorem nomark (b : Expr) {op : CmpOp} (h : op ≠ .In := by decide) (h2 : op ≠ .NotIn := by decide) : behindInMarks op b = false := by
  have e1 : (op == CmpOp.In) = false := by cases op <;> first | rfl | exact absurd rfl h
  have e2 : (op == CmpOp.NotIn) = false := by cases op <;> first | rfl | exact absurd rfl h2
  cases b <;> simp [behindInMarks, e1, e2]
theorem pe_cmpR {op : CmpOp} {r : R2} (ho : OpR X (compareOp op) r) (ha : PE X a ta) (hb : PE X b tb) (hm : behindInMarks op b = false) : PE X (.Compare a [op] [b] pos) (tOp r ta tb) := by
  intro pins s σ H Q I h
  exact wpAny_Compare1 (binT ha hb I h fun v u s2 x y H2 I2 rx ry q => ho pins s2 σ H2 x y v u Q I2 rx ry q) hm
def tTest (t : TE) : TT := fun σ H Q => t σ H fun x H' => ∃ k, x = .bl k ∧ Q k H'
theorem pt_cmpR {op : CmpOp} {r : R2} (ho : OpR X (compareOp op) r) (ha : PE X a ta) (hb : PE X b tb) (hm : behindInMarks op b = false) : PT X (.Compare a [op] [b] pos) (tTest (tOp r ta tb)) := by
  intro pins s σ H Q I h
  refine wpAny_isTrue_Compare1 (thn (ha pins s σ H _ I h) fun v s1 ⟨x, H1, I1, r1, q1⟩ => thn (hb pins s1 σ H1 _ I1 q1) fun u s2 ⟨y, H2, I2, r2, q2⟩ =>
    thn (ho pins s2 σ H2 x y v u _ I2 r1 r2 q2) fun c s3 ⟨z, H3, I3, r3, k, e, q3⟩ => ?_) hm
  subst e
  cases r3
  exact wpAny_truthy_bool ⟨H3, I3, q3⟩
def tChain (r r' : R2) (ta tb tc : TE) : TE := fun σ H Q => ta σ H fun x H1 => tb σ H1 fun y H2 => r x y H2 fun z H3 => ∃ k, z = .bl k ∧
  (if k = true then tc σ H3 fun w' H4 => r' y w' H4 Q else Q (.bl false) H3)
def TruV (K : PySem.W.Frag) (x : V) (H : Hp) (k : Bool) : Prop :=
  match x with
  | .non => k = false
  | .bl b => k = b
  | .int i => k = (i != 0)
  | .str y => y.length ≤ sizeLine ∧ k = ((y.length : Int) != 0)
  | .byt y => y.size ≤ sizeLine ∧ k = ((y.size : Int) != 0)
  | .ref p => (∃ xs, SqL K H p xs ∧ k = !xs.isEmpty) ∨ (∃ xs, SqT K H p xs ∧ k = !xs.isEmpty) ∨ ∃ kvs, H p = some (.dK kvs) ∧ k = !kvs.isEmpty
  | _ => False
theorem line63 : (sizeLine : Nat) < 2 ^ 63 := by rw [sizeLine_eq]; decide
theorem op_add_str : OpR X (binaryOp .Add) (fun x y H Q => ∃ i j, x = .str i ∧ y = .str j ∧ i.length + j.length ≤ sizeLine ∧ Q (.str (i ++ j)) H) := by
  intro pins s σ H x y v u Q I rx ry h
  obtain ⟨i, j, rfl, rfl, hz, q⟩ := h
  obtain ⟨t, rfl⟩ := rx
  obtain ⟨t', rfl⟩ := ry
  exact add_str (fun t' tk => ⟨.str (i ++ j), H, I.tok _, ⟨_, rfl⟩, q⟩) hz
def PlainIxT (b : Expr) : Prop := ∀ o i, subscripted b false o i = operate [o, i] (getItem o i)
theorem vals1 {x : V} {us : List Value} (r : Vals [x] us) : ∃ u, us = [u] ∧ RelV x u := by
  cases r with
  | cons r1 r2 => cases r2; exact ⟨_, rfl, r1⟩
theorem vals2 {x y : V} {us : List Value} (r : Vals [x, y] us) : ∃ u w', us = [u, w'] ∧ RelV x u ∧ RelV y w' := by
  cases r with
  | cons r1 r2 =>
    cases r2 with
    | cons r3 r4 => cases r4; exact ⟨_, _, rfl, r1, r3⟩
theorem call_abs : CallR X (.builtin "abs") (fun xs H Q => ∃ i, xs = [.int i] ∧ Q (.int (if i < 0 then -i else i)) H) := by
  intro pins s σ H xs us Q I r h
  obtain ⟨i, rfl, q⟩ := h
  obtain ⟨u, rfl, t, rfl⟩ := vals1 r
  exact call_abs_int fun u tk => ⟨.int (if i < 0 then -i else i), H, I.tok _, ⟨_, rfl⟩, q⟩
def LenV (K : PySem.W.Frag) (x : V) (H : Hp) (n : Nat) : Prop :=
  match x with
  | .str y => y.length ≤ sizeLine ∧ n = y.length
  | .byt y => y.size ≤ sizeLine ∧ n = y.size
  | .ref p => (∃ xs, SqL K H p xs ∧ n = xs.length) ∨ ∃ xs, SqT K H p xs ∧ n = xs.length
  | _ => False
end
end L2

namespace L2
open PySem PySem.Spec PyProof.Rows

structure ObjM (h : Heap) (x dx C : Addr) (mA : Str → Option Value) : Prop where
  obj : h.get? x = some (PySem.W.instObj C dx)
  ns : h.Ns1 dx mA
  ne : dx ≠ x

section
variable {prog : Program} {w : World} {A : Around} {E : Value → Shared → Prop} {s : Shared} {K : PySem.W.Frag} {x dx C f : Addr} {mA : Str → Option Value} {name : Str} {v : Value}

end

def putF (f : Str) (v : V) : List (Str × V) → List (Str × V)
  | [] => [(f, v)]
  | (g, x) :: r => if g = f then (g, v) :: r else (g, x) :: putF f v r
section
variable {P : Program} {w : World} {H H' : Hp} {h h' : Heap} {a C dx : Addr} {fs fs' : List (Str × V)}
end

structure Cls (K : PySem.W.Frag) (C : Addr) : Prop where
  pg : PySem.W.plainGet K C Str.empty = true
  hd : PySem.W.hasDictIn K C = true
  po : PySem.W.plainOver K C = true
  sa : PySem.W.findIn K (.ref C) "__setattr__" = some (some (.builtin "object.__setattr__"))
def NoAttr (K : PySem.W.Frag) (C : Addr) (f : Str) : Prop := PySem.W.findIn K (.ref C) f = some none
structure Con (K : PySem.W.Frag) (C : Addr) (f : Str) (v : V) (u : Value) : Prop where
  at_ : PySem.W.findIn K (.ref C) f = some (some u)
  rel : RelV v u
  get : PySem.W.specialIn K u "__get__" = some none
  cp : PySem.W.copiedNames.contains f = false
structure Meth (K : PySem.W.Frag) (C : Addr) (m : Str) (f : Addr) : Prop where
  at_ : PySem.W.findIn K (.ref C) m = some (some (.ref f))
  fn : PySem.W.isFn K (.ref f) = true
  kp : PySem.W.keepIn K (.ref f) = true

section
variable {X : Cx} {pins : List (Addr × Obj)} {σ : St} {H : Hp} {s : Shared} {a C dx : Addr} {fs : List (Str × V)} {f : Str} {v : V} {A : Around} {E : Value → Shared → Prop}

end

def tFld (K : PySem.W.Frag) (ta : TE) (f : Str) : TE := fun σ H Q => ta σ H fun x H1 => ∃ a C dx fs v, x = .ref a ∧ H1 a = some (.ins C dx fs) ∧ Cls K C ∧ NoAttr K C f ∧ fs.lookup f = some v ∧ Q v H1
def tCon (K : PySem.W.Frag) (ta : TE) (f : Str) : TE := fun σ H Q => ta σ H fun x H1 => ∃ a C dx fs v u, x = .ref a ∧ H1 a = some (.ins C dx fs) ∧ Cls K C ∧ Con K C f v u ∧ fs.lookup f = none ∧ Q v H1
def sFld (K : PySem.W.Frag) (ta tv : TE) (f : Str) : TS := fun D σ H => tv σ H fun y H1 => ta σ H1 fun x H2 => ∃ a C dx fs, x = .ref a ∧ H2 a = some (.ins C dx fs) ∧ Cls K C ∧ NoAttr K C f ∧ fs.length < 1000 ∧
  D.nx σ (upd H2 a (.ins C dx (putF f y fs)))
def InOp (X : Cx) (op : Operator) (rd : V → V → Hp → VK → Prop) : Prop :=
  ∀ (pins : List (Addr × Obj)) (s : Shared) (σ : St) (H : Hp) (x y : V) (u v : Value) (Q : VK), Inv X pins σ H s → RelV x u → RelV y v → rd x y H Q → wpAny (model X.prog X.w) X.A (inplaceOp op u v) (EP X pins σ Q) X.xe s
def sFldAug (K : PySem.W.Frag) (ta tv : TE) (rd : V → V → Hp → VK → Prop) (f : Str) : TS := fun D σ H => ta σ H fun x H1 => ∃ a C dx fs v, x = .ref a ∧ H1 a = some (.ins C dx fs) ∧ Cls K C ∧ NoAttr K C f ∧ fs.lookup f = some v ∧
  tv σ H1 fun y H2 => rd v y H2 fun z H3 => ∃ dx' fs', H3 a = some (.ins C dx' fs') ∧ fs'.length < 1000 ∧ D.nx σ (upd H3 a (.ins C dx' (putF f z fs')))

section
variable {X : Cx} {o e value : Expr} {f : Str} {pos pos' tpos : Pos} {ta tv : TE}
def rAdd : V → V → Hp → VK → Prop := fun x y H Q => ∃ i j, x = .int i ∧ y = .int j ∧ Q (.int (i + j)) H
def rSub : V → V → Hp → VK → Prop := fun x y H Q => ∃ i j, x = .int i ∧ y = .int j ∧ Q (.int (i - j)) H
end

section
variable {X : Cx} {pins : List (Addr × Obj)} {σ : St} {H : Hp} {s : Shared} {A : Around} {E : Value → Shared → Prop} {Q : Value → Shared → Prop} {c : Value} {b : Bool}
inductive TyOf (K : PySem.W.Frag) (H : Hp) : V → Value → Prop where
  | non : TyOf K H .non (.type "NoneType")
  | bl (x : Bool) : TyOf K H (.bl x) (.type "bool")
  | int (i : Int) : TyOf K H (.int i) (.type "int")
  | str (x : Str) : TyOf K H (.str x) (.type "str")
  | flt (x : UInt64) : TyOf K H (.flt x) (.type "float")
  | lst {a : Addr} {xs : List V} (e : H a = some (.lst xs)) : TyOf K H (.ref a) (.type "list")
  | frz {a : Addr} {o : Obj} {xs : List V} (e : H a = some (.frz o (.lst xs))) : TyOf K H (.ref a) (.type "list")
  | tup {a : Addr} {xs : List V} (e : H a = some (.tup xs)) : TyOf K H (.ref a) (.type "tuple")
  | dK {a : Addr} {kvs : List (Key × V)} (e : H a = some (.dK kvs)) : TyOf K H (.ref a) (.type "dict")
  | dT {a : Addr} {kvs : List (List Key × V)} (e : H a = some (.dT kvs)) : TyOf K H (.ref a) (.type "dict")
  | ins {a C dx : Addr} {fs : List (Str × V)} (e : H a = some (.ins C dx fs)) (cl : Cls K C) (ha : PySem.W.findIn K (.ref C) "__class__" = some (some (.builtin "object.__class__")))
      (hn : PySem.W.specialIn K (.builtin "object.__class__") "__get__" = some (some (.builtin "getset_descriptor.__get__"))) (htk : PySem.W.takesIn K (.builtin "object.__class__") = some true)
      (hm : PySem.W.mroIn K C (.type "object") = some true) : TyOf K H (.ref a) (.ref C)
end
end L2

namespace L2
open PySem PySem.Spec PyProof.Rows

structure Room (k : Nat) (A : Around) : Prop where
  hd : A.handled = none
  dp : A.depth + 3 * k + 5 < recursionLimit
  un : A.units + 16 * k + 200 < cLine
theorem Room.mono {j k : Nat} {A : Around} (r : Room k A) (h : j ≤ k) : Room j A := ⟨r.hd, by have := r.dp; omega, by have := r.un; omega⟩
theorem Room.deeper {k : Nat} {A : Around} (r : Room (k + 1) A) (env : Env) : Room k (A.deeper env) :=
  ⟨r.hd, by have := r.dp; show A.depth + 1 + 3 * k + 5 < _; omega, by have := r.un; show A.units + 3 + 16 * k + 200 < _; omega⟩
theorem Room.depth {k : Nat} {A : Around} (r : Room k A) : A.depth < recursionLimit := by have := r.dp; omega
theorem Room.units {k : Nat} {A : Around} (r : Room k A) : A.units + 64 < cLine := by have := r.un; omega
def tNil : TA := fun _ H Q => Q [] H
def tCons (ta : TE) (tr : TA) : TA := fun σ H Q => ta σ H fun x H1 => tr σ H1 fun xs H2 => Q (x :: xs) H2
section
variable {X : Cx} {e : Expr} {es : List Expr} {te : TE} {t : TA} {pos : Pos}
theorem pa_nil : PA X [] tNil := fun _ _ _ _ H Q I h => Calls.spliced_nil ⟨[], H, I, .nil, h⟩
theorem pa_cons (ha : PE X e te) (hr : PA X es t) (hs : starEach (e :: es) X.env = (false, eval e X.env) :: starEach es X.env := by rfl) : PA X (e :: es) (tCons te t) := by
  intro pos pins s σ H Q I h
  rw [hs]
  show wpAny _ _ (spliced ((false, eval e X.env) :: backTo pos (starEach es X.env))) _ _ s
  refine Calls.spliced_cons (thn (ha pins s σ H _ I h) fun u s1 ⟨x, H1, I1, r1, q1⟩ => ?_)
  exact thn (hr pos pins s1 σ H1 _ I1 q1) fun us s2 ⟨xs, H2, I2, r2, q2⟩ => ⟨x :: xs, H2, I2, .cons r1 r2, q2⟩

def tTup (t : TA) : TE := fun σ H Q => t σ H fun xs H1 => xs.length ≤ sizeLine ∧ ∀ p, H1 p = none → Q (.ref p) (upd H1 p (.tup xs))
def tLst (t : TA) : TE := fun σ H Q => t σ H fun xs H1 => xs.length ≤ sizeLine ∧ ∀ p, H1 p = none → Q (.ref p) (upd H1 p (.lst xs))
theorem pe_tup {x1} (h : PA X es t) : PE X (.Tuple es x1 pos) (tTup t) := by
  intro pins s σ H Q I hq
  refine wpAny_Tuple_spliced (thn (h pos pins s σ H _ I hq) fun us s1 ⟨xs, H1, I1, r, z, q⟩ => ⟨by rw [← r.length]; exact z, ?_⟩)
  have hf : H1 s1.heap.objs.size = none := I1.hok.fresh (Nat.le_refl _)
  refine ⟨.ref s1.heap.objs.size, upd H1 s1.heap.objs.size (.tup xs), I1.laid (t' := s1.toks) (fun b u e => Heap.get?_push_of_some _ e) (Nat.le_refl _) ?_, rfl, q _ hf⟩
  exact ⟨z, us, r, ⟨_, Heap.get?_push_size _ rfl, rfl, _, rfl⟩⟩
theorem pe_lst (h : PA X es t) : PE X (.List es pos) (tLst t) := by
  intro pins s σ H Q I hq
  refine wpAny_List_spliced (thn (h pos pins s σ H _ I hq) fun us s1 ⟨xs, H1, I1, r, z, q⟩ => ⟨by rw [← r.length]; exact z, ?_⟩)
  have hf : H1 s1.heap.objs.size = none := I1.hok.fresh (Nat.le_refl _)
  refine ⟨.ref s1.heap.objs.size, upd H1 s1.heap.objs.size (.lst xs), I1.laid (t' := s1.toks) (fun b u e => Heap.get?_push_of_some _ e) (Nat.le_refl _) ?_, rfl, q _ hf⟩
  exact ⟨z, us, 0, r, Heap.get?_push_size _ rfl⟩
end

abbrev Sp := List V → Hp → VK → XK → Prop
abbrev CXT := List Env → Hp → Shared → XK → Value → Shared → Prop

structure Env0 (P : Program) (w : World) (K : PySem.W.Frag) (mg : Str → Option Value) (base : Heap) (A : Around) (outer : List Env) (s : Shared) (H : Hp) : Prop where
  frames : A.frames = some outer
  mod : Mod K mg base
  bs : ∀ b o, base.get? b = some o → s.heap.get? b = some o ∧ H b = none
  bsz : base.objs.size ≤ s.heap.objs.size
  funs : s.heap.FunFrames base outer
  frf : ∀ b ∈ frs outer, H b = none
  hok : HOk P w H s.heap
  bare : AllBare s.gens
def CE (outer : List Env) (P : Program) (w : World) (H : Hp) (s : Shared) (Q : VK) (u : Value) (s' : Shared) : Prop :=
  ∃ v H', s'.os = s.os ∧ AllBare s'.gens ∧ Un (frs outer) [] H H' s.heap s'.heap ∧ HOk P w H' s'.heap ∧ RelV v u ∧ Q v H'
def CR (CX : CXT) (outer : List Env) (P : Program) (w : World) (H : Hp) (s : Shared) (Q : VK) (E : XK) (r : Result) (s' : Shared) : Prop :=
  match r with
  | .ok (.ret u) => CE outer P w H s Q u s'
  | .ok _ => False
  | .error e => CX outer H s E e s'
structure FnOk (P : Program) (w : World) (K : PySem.W.Frag) (mg : Str → Option Value) (base : Heap) (CX : CXT) (k : Nat) (f : Addr) (fd : FuncData) (ps : List Str) (sp : Sp) : Prop where
  len : ∀ vs H Q E, sp vs H Q E → vs.length = ps.length
  run : ∀ (A : Around) (outer : List Env) (s : Shared) (H : Hp) (args : Args) (us : List Value) (vs : List V) (Q : VK) (E : XK), Room k A → Env0 P w K mg base A outer s H → BindsTo s fd args (ps.zip us) → Vals vs us → sp vs H Q E →
    codeAny (model P w) A (.call (.ref f) args) (CR CX outer P w H s Q E) s
section
variable {X : Cx} {pins : List (Addr × Obj)} {σ : St} {H : Hp} {s s' : Shared}
theorem Inv.env0 (I : Inv X pins σ H s) : Env0 X.prog X.w X.K X.mg X.base X.A X.stack s H :=
  ⟨I.ok.frames, I.ok.mod, I.bs, Nat.le_trans I.ok.bsz I.sz, I.stack, I.stkFree, I.hok, I.bare⟩
theorem Inv.after {Q : VK} {u : Value} (I : Inv X pins σ H s) (h : CE X.stack X.prog X.w H s Q u s') : EP X pins σ Q u s' := by
  obtain ⟨v, H', os, bare, un, hok, r, q⟩ := h
  obtain ⟨hh, g, d, t, os'⟩ := s'
  obtain rfl : os' = s.os := os
  exact ⟨v, H', I.call (h' := hh) (g' := g) (d' := d) (t' := t) (ch := []) un hok bare (fun b z => absurd z (by simp)), r, q⟩
end

def tCall (sp : Sp) (dvs : List V) (E : XK) (t : TA) : TE := fun σ H Q => t σ H fun vs H1 => sp (vs ++ dvs) H1 Q E
def tMeth (C : Addr) (m : Str) (sp : Sp) (dvs : List V) (E : XK) (ta : TE) (t : TA) : TE := fun σ H Q => ta σ H fun x H1 => ∃ a dx fs, x = .ref a ∧ H1 a = some (.ins C dx fs) ∧ fs.lookup m = none ∧
  t σ H1 fun vs H2 => sp (x :: (vs ++ dvs)) H2 Q E
def tMake (C : Addr) (sp : Sp) (dvs : List V) (E : XK) (t : TA) : TE := fun σ H Q => t σ H fun vs H1 => ∀ x dx, H1 x = none → H1 dx = none → dx ≠ x →
  sp (.ref x :: (vs ++ dvs)) (upd (upd H1 dx (.own x)) x (.ins C dx [])) (fun v H2 => v = .non ∧ Q (.ref x) H2) E

def Binds (K : PySem.W.Frag) (fd : FuncData) (ps : List Str) (ds : List Value) : Prop :=
  ∀ (s : Shared) (us : List Value), K.In s.heap → (us ++ ds).length = ps.length → BindsTo s fd ⟨us, []⟩ (ps.zip (us ++ ds))
theorem Binds.all {K : PySem.W.Frag} {fd : FuncData} {ps : List Str} (h : ∀ us : List Value, us.length = ps.length → bindArgs fd ⟨us, []⟩ = pure (ps.zip us)) : Binds K fd ps [] := fun s us _ hl => by
  rw [List.append_nil] at hl ⊢
  exact .of_eq (h us hl)

def Passes (CX : CXT) (X : Cx) (E : XK) : Prop := ∀ (pins : List (Addr × Obj)) (σ : St) (H : Hp) (s : Shared) (e : Value) (s' : Shared), Inv X pins σ H s → CX X.stack H s E e s' → X.xe e s'

section
variable {X : Cx} {CX : CXT} {k : Nat} {f C : Addr} {fd : FuncData} {ps : List Str} {sp : Sp} {dvs : List V} {ds : List Value} {E : XK} {x m : Str} {p pos apos : Pos} {e o : Expr} {es : List Expr} {ta : TE} {t : TA}

structure Mk (K : PySem.W.Frag) (C f : Addr) : Prop where
  makes : PySem.W.makesIn K C = true
  init : PySem.W.findIn K (.ref C) "__init__" = some (some (.ref f))
  fn : PySem.W.isFn K (.ref f) = true
  kp : PySem.W.keepIn K (.ref C) = true

end

def PK (X : Cx) (kws : List Keyword) (t : TA) : Prop :=
  ∀ (pos : Pos) (pins : List (Addr × Obj)) (s : Shared) (σ : St) (H : Hp) (Q : List V → Hp → Prop), Inv X pins σ H s → t σ H Q → wpAny (model X.prog X.w) X.A (evalAll ((backToKw pos (keywordEach kws X.env)).map (·.2))) (AP X pins σ Q) X.xe s
section
variable {X : Cx} {CX : CXT} {k : Nat} {f C : Addr} {fd : FuncData} {ps ks : List Str} {sp : Sp} {E : XK} {x m : Str} {p pos apos kpos : Pos} {e o : Expr} {es : List Expr} {kws : List Keyword} {te ta : TE} {t tk : TA} {nm : Option Str}
structure KBinds (K : PySem.W.Frag) (fd : FuncData) (ps ks : List Str) (g : List Value → List Value → List Value) (gV : List V → List V → List V) : Prop where
  to : ∀ (s : Shared) (us ws : List Value), K.In s.heap → (g us ws).length = ps.length → BindsTo s fd ⟨us, ks.zip ws⟩ (ps.zip (g us ws))
  rel : ∀ {vs : List V} {us : List Value} {zs : List V} {ws : List Value}, Vals vs us → Vals zs ws → Vals (gV vs zs) (g us ws)
def tCallK (sp : Sp) (gV : List V → List V → List V) (E : XK) (t tk : TA) : TE := fun σ H Q => t σ H fun vs H1 => tk σ H1 fun zs H2 => sp (gV vs zs) H2 Q E
variable {g : List Value → List Value → List Value} {gV : List V → List V → List V}
end

structure FnScope (N P : List Str) (sc : Scope) : Prop where
  kind : sc.kind = .function
  co : sc.isCoroutine = false
  gen : sc.isGenerator = false
  nd : N.Nodup
  pre : N.take P.length = P
  par : ∀ x ∈ P, sc.names.lookup x = some .local ∨ sc.names.lookup x = some .cell
  nofree : ∀ y ∈ sc.names, y.2 ≠ .free

theorem bindL_out {kindOf : Str → Option NameKind} {x : Str} : ∀ {binds : List (Str × Value)} {m : Str → Option Value}, (∀ v, (x, v) ∉ binds) → bindL kindOf binds m x = m x
  | [], _, _ => rfl
  | (n, v) :: r, m, h => by
    unfold bindL
    rw [bindL_out fun w hw => h w (List.mem_cons_of_mem _ hw)]
    split
    · have : x ≠ n := by rintro rfl; exact h v List.mem_cons_self
      simp [this]
    · rfl
theorem bindC_out {kindOf : Str → Option NameKind} {x : Str} : ∀ {binds : List (Str × Value)} {m : Str → Option Value}, (∀ v, (x, v) ∉ binds) → bindC kindOf binds m x = m x
  | [], _, _ => rfl
  | (n, v) :: r, m, h => by
    unfold bindC
    rw [bindC_out fun w hw => h w (List.mem_cons_of_mem _ hw)]
    split
    · rfl
    · have : x ≠ n := by rintro rfl; exact h v List.mem_cons_self
      simp [this]
theorem bindL_get {kindOf : Str → Option NameKind} {x : Str} {v : Value} : ∀ {P : List Str} {vs : List Value} {i : Nat} {m : Str → Option Value}, P.Nodup → P[i]? = some x → vs[i]? = some v → kindOf x = some .local →
    bindL kindOf (P.zip vs) m x = some v
  | [], _, _, _, _, h, _, _ => by simp at h
  | _ :: _, [], _, _, _, _, h, _ => by simp at h
  | p :: P, w :: vs, 0, m, nd, h1, h2, hk => by
    simp at h1 h2; subst h1; subst h2
    show bindL kindOf ((p, w) :: P.zip vs) m p = _
    unfold bindL
    rw [bindL_out fun v hv => (List.nodup_cons.mp nd).1 (List.of_mem_zip hv).1, if_pos hk]
    simp
  | p :: P, w :: vs, i + 1, m, nd, h1, h2, hk => by
    show bindL kindOf ((p, w) :: P.zip vs) m x = _
    unfold bindL
    exact bindL_get (i := i) (List.nodup_cons.mp nd).2 (by simpa using h1) (by simpa using h2) hk
theorem bindC_get {kindOf : Str → Option NameKind} {x : Str} {v : Value} : ∀ {P : List Str} {vs : List Value} {i : Nat} {m : Str → Option Value}, P.Nodup → P[i]? = some x → vs[i]? = some v → kindOf x ≠ some .local →
    bindC kindOf (P.zip vs) m x = some v
  | [], _, _, _, _, h, _, _ => by simp at h
  | _ :: _, [], _, _, _, _, h, _ => by simp at h
  | p :: P, w :: vs, 0, m, nd, h1, h2, hk => by
    simp at h1 h2; subst h1; subst h2
    show bindC kindOf ((p, w) :: P.zip vs) m p = _
    unfold bindC
    rw [bindC_out fun v hv => (List.nodup_cons.mp nd).1 (List.of_mem_zip hv).1, if_neg hk]
    simp
  | p :: P, w :: vs, i + 1, m, nd, h1, h2, hk => by
    show bindC kindOf ((p, w) :: P.zip vs) m x = _
    unfold bindC
    exact bindC_get (i := i) (List.nodup_cons.mp nd).2 (by simpa using h1) (by simpa using h2) hk

def start (N : List Str) (vs : List V) : St := vs.map some ++ List.replicate (N.length - vs.length) none

def cxOf (CX : CXT) (P : Program) (w : World) (K : PySem.W.Frag) (mg : Str → Option Value) (base : Heap) (N : List Str) (qual : Str) (scope : Scope) (f : Addr) (cd : Value) (A : Around) (outer : List Env) (s : Shared) (H : Hp) (E : XK) : Cx where
  prog := P
  w := w
  K := K
  mg := mg
  base := base
  A := A.deeper (envOfC qual scope s.heap.objs.size f cd)
  N := N
  s₀ := s
  H₀ := H
  env := envOfC qual scope s.heap.objs.size f cd
  outer := outer
  stack := envOfC qual scope s.heap.objs.size f cd :: outer
  ex := []
  calm := true
  fn := fun _ => true
  pn := []
  xe := fun e s' => wpAny (model P w) (A.deeper (envOfC qual scope s.heap.objs.size f cd)) (leaving (envOfC qual scope s.heap.objs.size f cd) e) (fun _ s'' => CX outer H s E e s'') (fun e' s'' => CX outer H s E e' s'') s'

theorem cell_has {sc : Scope} {n : Nat} {x : Str} (h : sc.names.lookup x = some .cell) : ∃ c, (cellsFrom n sc.names []).lookup x = some c := by
  have q := PySem.W.cellsFrom_some sc.names n [] (.inl h)
  exact Option.isSome_iff_exists.mp q

theorem inv_start {CX : CXT} {P : Program} {w : World} {K : PySem.W.Frag} {mg : Str → Option Value} {base : Heap} {N ps : List Str} {qual : Str} {scope : Scope} {f : Addr} {cd : Value} {A : Around} {outer : List Env} {s s1 : Shared} {H : Hp} {E : XK} {us : List Value} {vs : List V}
    (S : FnScope N ps scope) (hd : A.handled = none) (e0 : Env0 P w K mg base A outer s H) (hl : vs.length = ps.length) (r : Vals vs us)
    (x : InCallC s s.heap.objs.size (bindL (envOfC qual scope s.heap.objs.size f cd).kindOf (ps.zip us) fun _ => none) (cellsFrom (s.heap.objs.size + 1) scope.names []) (bindC (envOfC qual scope s.heap.objs.size f cd).kindOf (ps.zip us) fun _ => none) s1) :
    Inv (cxOf CX P w K mg base N qual scope f cd A outer s H E) [] (start N vs) H s1 := by
  have hpl : ps.length ≤ N.length := by have := congrArg List.length S.pre; rw [List.length_take] at this; omega
  obtain ⟨h1, tk, rfl, hk⟩ := x.done
  have noA : ∀ b : Addr, b ∉ (cxOf CX P w K mg base N qual scope f cd A outer s H E).ex := fun b z => absurd (show b ∈ ([] : List Addr) from z) (by simp)
  refine ⟨⟨e0.mod, S.kind, rfl, rfl, Nat.le_refl _, fun y z c h1 h2 => ?_, fun y hy => ?_, fun y c _ h => ?_, fun _ => hd, Around.frames_deeper e0.frames, .inr ⟨rfl, rfl⟩, fun b z => absurd z (noA b), e0.bs, e0.bsz, fun b _ _ => noA b, fun b z => absurd z (noA b), e0.funs, e0.frf⟩,
    rfl, e0.bare, Un.kept hk, ⟨_, x.toInCall.ns, fun i y v h1 h2 h3 => ?_⟩, fun y c h => ⟨_, x.cell y c h⟩, e0.hok.fresh (Nat.le_refl _), fun y c h => ?_, fun p hp => absurd (show p ∈ ([] : List (Addr × Obj)) from hp) (by simp), e0.hok.kept hk, ?_⟩
  · exact name_of_addr x.apart (PySem.mem_of_lookup h1) (PySem.mem_of_lookup h2)
  · have hy : scope.names.lookup y = some .cell ∨ scope.names.lookup y = some .free := hy
    rcases hy with hy | hy
    · exact cell_has hy
    · exact absurd rfl (S.nofree _ (PySem.mem_of_lookup hy))
  · exact Nat.le_of_lt (x.above y c (PySem.mem_of_lookup h))
  · have hi : i < vs.length := by
      unfold start at h2
      by_cases hi : i < vs.length
      · exact hi
      · rw [List.getElem?_append_right (by simpa using hi)] at h2
        rw [List.getElem?_replicate] at h2
        split at h2 <;> cases h2
    have ha : vs[i]? = some v := by
      unfold start at h2
      rw [List.getElem?_append_left (by simpa using hi), List.getElem?_map] at h2
      cases e : vs[i]? with
      | none => rw [e] at h2; cases h2
      | some a => rw [e] at h2; cases h2; rfl
    obtain ⟨u, hu, rv⟩ := r.get ha
    have hp : ps[i]? = some y := by
      rw [← S.pre, List.getElem?_take_of_lt (by omega)]; exact h1
    have ndP : ps.Nodup := by rw [← S.pre]; exact S.nd.sublist (List.take_sublist _ _)
    refine ⟨u, rv, ?_⟩
    rcases S.par y (List.mem_of_getElem? hp) with k | k
    · exact .inl ⟨k, bindL_get ndP hp hu k⟩
    · obtain ⟨c, e⟩ := cell_has (n := s.heap.objs.size + 1) k
      refine .inr ⟨.inl k, c, e, ?_⟩
      have q := x.cell y c e
      rw [bindC_get ndP hp hu (by show scope.names.lookup y ≠ _; rw [k]; decide)] at q
      exact q
  · exact e0.hok.fresh (Nat.le_of_lt (x.above y c (PySem.mem_of_lookup h)))
  · unfold start
    show _ = N.length
    rw [List.length_append, List.length_map, List.length_replicate]
    omega

theorem fn_of {CX : CXT} {P : Program} {w : World} {K : PySem.W.Frag} {mg : Str → Option Value} {base : Heap} {k : Nat} {f : Addr} {name qual : Str} {params : Arguments} {body : List Stmt} {scope : Scope} {dV kV doc pm cdv ct oc : Value} {an od : Option Addr}
    {osl : Array (Option Value)} {N ps : List Str} {sp : Sp} (lk : K.lookup f = some ⟨oc, od, .func (PySem.W.fnOf name qual params body scope dV kV doc pm an cdv ct), osl⟩) (hcd : PySem.W.codeIn K cdv qual = true) (S : FnScope N ps scope)
    (len : ∀ vs H Q E, sp vs H Q E → vs.length = ps.length)
    (hbody : ∀ (A : Around) (outer : List Env) (s : Shared) (H : Hp) (vs : List V) (Q : VK) (E : XK), Room k (A.deeper (envOfC qual scope s.heap.objs.size f cdv)) → sp vs H Q E →
      ∃ t, PSs (cxOf CX P w K mg base N qual scope f cdv A outer s H E) body t ∧ t { nx := fun _ H' => Q .non H', rt := Q } (start N vs) H) :
    FnOk P w K mg base CX (k + 1) f (PySem.W.fnOf name qual params body scope dV kV doc pm an cdv ct) ps sp := by
  refine ⟨len, fun A outer s H args us vs Q E hr e0 hb r hsp => ?_⟩
  have hl := len _ _ _ _ hsp
  have KX : K.In s.heap := e0.mod.kin.keeps fun b o e => (e0.bs b o e).1
  have lim : s.heap.NoLimit := e0.mod.nolimit.keeps fun b o e => (e0.bs b o e).1
  have hkind : ∀ y ∈ ps.zip us, scope.names.lookup y.1 = some .local ∨ (scope.names.lookup y.1 = some .cell ∧ ((cellsFrom (s.heap.objs.size + 1) scope.names []).lookup y.1).isSome = true) := fun ⟨n, v⟩ hy => by
    rcases S.par n (List.of_mem_zip hy).1 with q | q
    · exact .inl q
    · exact .inr ⟨q, PySem.W.cellsFrom_some _ _ _ (.inl q)⟩
  refine codeAny_call_function hr.depth (KX _ _ lk) rfl S.co S.gen rfl (PySem.W.codeRec_of KX hcd) (hb _ _ _ _ ?_)
  refine wpAny_newFunctionEnv_cells S.kind hkind fun env he s1 x => ?_
  subst he
  refine ⟨lim.keeps x.toInCall.keep, codeAny_func ?_⟩
  obtain ⟨t, ht, hq⟩ := hbody A outer s H vs Q E (hr.deeper _) hsp
  have I : Inv (cxOf CX P w K mg base N qual scope f cdv A outer s H E) [] (start N vs) H s1 := inv_start S hr.hd e0 hl r x
  refine wpAny_mono (ht [] s1 (start N vs) H _ I hq) (fun fl s' hs => ?_) fun e s' hs => hs
  have fin : ∀ {σ' : St} {H' : Hp} {v : V} {u : Value}, Inv (cxOf CX P w K mg base N qual scope f cdv A outer s H E) [] σ' H' s' → RelV v u → Q v H' → CE outer P w H s Q u s' :=
    fun {σ' H' v u} J rv q => ⟨v, H', J.os, J.bare, J.base, J.hok, rv, q⟩
  cases fl with
  | ret u =>
    obtain ⟨v, σ', H', J, rv, q⟩ := hs
    exact fin J rv q
  | next =>
    obtain ⟨σ', H', J, q⟩ := hs
    exact fin (v := V.non) (u := Value.none) J rfl q
  | brk =>
    obtain ⟨_, _, _, q⟩ := hs
    exact False.elim q
  | cont =>
    obtain ⟨_, _, _, q⟩ := hs
    exact False.elim q
end L2

namespace L2
open PySem PySem.Spec PyProof.Rows
section
variable {X : Cx} {x : Str} {p pos : Pos} {e : Expr} {es : List Expr} {t : TA} {id T : String} {r : List V → Hp → VK → Prop}

def tCB (r : List V → Hp → VK → Prop) (t : TA) : TE := fun σ H Q => t σ H fun vs H1 => r vs H1 Q
theorem pe_callB (hc : CallR X (.builtin id) r) (hg : Gl X x) (hm : X.mg x = none) (hv : bootBuiltins x = some (.builtin id)) (ha : PA X (e :: es) t) (hn : x ≠ "__name__" := by decide) (hdb : (x == ("__debug__" : Str)) = false := by decide)
    (he : starEach (e :: es) X.env = (false, eval e X.env) :: starEach es X.env := by rfl) (hpl : (backTo pos (starEach es X.env)).any (·.1) = false := by rfl) : PE X (.Call (.Name x p) (e :: es) [] pos) (tCB r t) := by
  intro pins s σ H Q I h
  refine wpAny_Call_Name_kw (ld_blt I hg hm hv ?_ hn hdb)
  exact PyProof.Rows.callWith_builtin1 (thn (ha pos pins s σ H _ I h) fun us s1 ⟨vs, H1, I1, r1, q1⟩ => hc pins s1 σ H1 vs us Q I1 r1 q1) he hpl
theorem pe_callTy (hc : CallR X (.type T) r) (hg : Gl X x) (hm : X.mg x = none) (hv : bootBuiltins x = some (.type T)) (ha : PA X (e :: es) t) (hn : x ≠ "__name__" := by decide) (hdb : (x == ("__debug__" : Str)) = false := by decide)
    (he : starEach (e :: es) X.env = (false, eval e X.env) :: starEach es X.env := by rfl) (hpl : (backTo pos (starEach es X.env)).any (·.1) = false := by rfl) : PE X (.Call (.Name x p) (e :: es) [] pos) (tCB r t) := by
  intro pins s σ H Q I h
  refine wpAny_Call_Name_kw (ld_blt I hg hm hv ?_ hn hdb)
  exact PyProof.Rows.callWith_type1 (thn (ha pos pins s σ H _ I h) fun us s1 ⟨vs, H1, I1, r1, q1⟩ => hc pins s1 σ H1 vs us Q I1 r1 q1) he hpl
end
end L2

namespace HT
open PySem PyProof.Rows

def lexLt : List Int → List Int → Bool
  | [], [] => false
  | [], _ :: _ => true
  | _ :: _, [] => false
  | x :: xs, y :: ys => if x = y then lexLt xs ys else decide (x < y)
section
open PySem.SeqAt
open PySem.AutoSeq1 (wpAny_loadPart')
open PySem.MeetsSeq PySem.MeetsSeq2 PySem.MeetsSeq3

end

section
variable {prog : Program} {w : World} {A : Around} {E : Value → Shared → Prop} {s : Shared}

def sIx (n d : Nat) : Option Int → Nat
  | none => d
  | some v => if v < 0 then (v + (n : Int)).toNat else min v.toNat n
end
end HT

namespace L2
open PySem PySem.Spec PyProof.Rows

abbrev TO := St → Hp → (Option Int → Hp → Prop) → Prop
def PO (X : Cx) (e : Option Expr) (t : TO) : Prop :=
  ∀ (pins : List (Addr × Obj)) (s : Shared) (σ : St) (H : Hp) (Q : Option Int → Hp → Prop), Inv X pins σ H s → t σ H Q →
    wpAny (model X.prog X.w) X.A (evalPart e X.env) (fun u s' => ∃ o H', Inv X pins σ H' s' ∧ IsPart u o ∧ Q o H') X.xe s
def tNoPart : TO := fun _ H Q => Q none H
def tPart (t : TE) : TO := fun σ H Q => t σ H fun x H1 => ∃ i, x = .int i ∧ Q (some i) H1

section
variable {X : Cx} {e : Expr} {te : TE} {lo hi : Option Expr} {tl th : TO} {pos p2 : Pos}

def SlR (X : Cx) (r : V → Option Int → Option Int → Hp → VK → Prop) : Prop :=
  ∀ (pins : List (Addr × Obj)) (s : Shared) (σ : St) (H : Hp) (x : V) (v vl vu : Value) (lo hi : Option Int) (sl : Addr) (Q : VK), Inv X pins σ H s → RelV x v → s.heap.IsSliceOf sl vl vu .none → IsPart vl lo → IsPart vu hi → r x lo hi H Q →
    ∃ T id, typeLookup (.type T) "__getitem__" = pure (some (.builtin id)) ∧ s.TypeIs v T ∧ wpAny (model X.prog X.w) X.A (getItem v (.ref sl)) (EP X pins σ Q) X.xe s
def tSl (r : V → Option Int → Option Int → Hp → VK → Prop) (te : TE) (tl th : TO) : TE := fun σ H Q => te σ H fun x H1 => tl σ H1 fun l H2 => th σ H2 fun u H3 => r x l u H3 Q
def cutV (xs : List V) (lo hi : Option Int) : List V := (xs.drop (HT.sIx xs.length 0 lo)).take (HT.sIx xs.length xs.length hi - HT.sIx xs.length 0 lo)
def rSlT (K : PySem.W.Frag) : V → Option Int → Option Int → Hp → VK → Prop := fun x lo hi H Q => ∃ a xs, x = .ref a ∧ SqT K H a xs ∧
  ¬ (HT.sIx xs.length 0 lo = 0 ∧ HT.sIx xs.length xs.length hi = xs.length) ∧ ∀ p, H p = none → Q (.ref p) (upd H p (.tup (cutV xs lo hi)))
def rLtT (K : PySem.W.Frag) : R2 := fun x y H Q => ∃ a b ns ms, x = .ref a ∧ y = .ref b ∧ SqT K H a (ns.map V.int) ∧ SqT K H b (ms.map V.int) ∧ Q (.bl (HT.lexLt ns ms)) H
def rCatT (K : PySem.W.Frag) : R2 := fun x y H Q => ∃ a b xs ys, x = .ref a ∧ y = .ref b ∧ SqT K H a xs ∧ SqT K H b ys ∧ xs ≠ [] ∧ xs.length + ys.length ≤ sizeLine ∧
  (ys = [] → Q (.ref a) H) ∧ (ys ≠ [] → ∀ p, H p = none → Q (.ref p) (upd H p (.tup (xs ++ ys))))
end
end L2

namespace L2
open PySem PySem.Spec PyProof.Rows

def ixN (n : Nat) (i : Int) : Option Nat := if 0 ≤ i then (if i < n then some i.toNat else none) else if -(n : Int) ≤ i then some (i + n).toNat else none
def atI {α : Type} (xs : List α) (i : Int) : Option α := (ixN xs.length i).bind fun j => xs[j]?
theorem ixN_seq {n : Nat} {i : Int} {j : Nat} (h : ixN n i = some j) : seqIndex? i n = some j ∧ j < n ∧ -(n : Int) ≤ i ∧ i < n := by
  unfold ixN at h
  by_cases h0 : 0 ≤ i
  · rw [if_pos h0] at h
    by_cases h1 : i < n
    · rw [if_pos h1] at h
      have e : i.toNat = j := Option.some.inj h
      exact ⟨by rw [seqIndex_of h0 h1, e], by omega, by omega, h1⟩
    · rw [if_neg h1] at h; cases h
  · rw [if_neg h0] at h
    by_cases h1 : -(n : Int) ≤ i
    · rw [if_pos h1] at h
      have e : (i + n).toNat = j := Option.some.inj h
      exact ⟨by rw [seqIndex_neg (by omega) h1, e], by omega, h1, by omega⟩
    · rw [if_neg h1] at h; cases h
theorem atI_get {α : Type} {xs : List α} {i : Int} {v : α} (h : atI xs i = some v) : ∃ j, seqIndex? i xs.length = some j ∧ xs[j]? = some v ∧ j < xs.length ∧ -(xs.length : Int) ≤ i ∧ i < xs.length := by
  unfold atI at h
  cases e : ixN xs.length i with
  | none => rw [e] at h; cases h
  | some j =>
    rw [e] at h
    obtain ⟨h1, h2, h3, h4⟩ := ixN_seq e
    exact ⟨j, h1, h, h2, h3, h4⟩
theorem atI_nat {α : Type} {xs : List α} {j : Nat} {v : α} (h : xs[j]? = some v) : atI xs (j : Int) = some v := by
  have hj : j < xs.length := (List.getElem?_eq_some_iff.mp h).1
  have e : ixN xs.length (j : Int) = some j := by
    unfold ixN
    rw [if_pos (by omega), if_pos (by omega)]; simp
  unfold atI; rw [e]; exact h
def PlainIx (b : Expr) : Prop := ∀ o i, subscripted b false o i = operate [o, i] (getItem o i)
def IxR (X : Cx) (r : R2) : Prop :=
  ∀ (value slice : Expr) (pins : List (Addr × Obj)) (s : Shared) (σ : St) (H : Hp) (x y : V) (v u : Value) (Q : VK), Inv X pins σ H s → RelV x v → RelV y u → r x y H Q →
    subscripted slice false v u = operate [v, u] (getItem v u) → wpAny (model X.prog X.w) X.A (subscriptTail value slice v u) (EP X pins σ Q) X.xe s
def MtR (X : Cx) (id : String) (r : V → List V → Hp → VK → Prop) : Prop :=
  ∀ (pins : List (Addr × Obj)) (s : Shared) (σ : St) (H : Hp) (x : V) (xs : List V) (v : Value) (us : List Value) (Q : VK), Inv X pins σ H s → RelV x v → Vals xs us → r x xs H Q →
    wpAny (model X.prog X.w) X.A (call (.builtin id) (v :: us)) (EP X pins σ Q) X.xe s
section
variable {X : Cx} {a b : Expr} {ta tb : TE} {pos : Pos}
theorem pe_ix {r : R2} (hr : IxR X r) (ha : PE X a ta) (hb : PE X b tb) (hs : PlainIx b) : PE X (.Subscript a b pos) (tOp r ta tb) := by
  intro pins s σ H Q I h
  exact Subscript_ (binT ha hb I h fun v u s2 x y H2 I2 rx ry q => hr a b pins s2 σ H2 x y v u Q I2 rx ry q (hs _ _))

def rIxL (K : PySem.W.Frag) : R2 := fun x y H Q => ∃ p xs i v, x = .ref p ∧ y = .int i ∧ SqL K H p xs ∧ atI xs i = some v ∧ Q v H
def rIxT (K : PySem.W.Frag) : R2 := fun x y H Q => ∃ p xs i v, x = .ref p ∧ y = .int i ∧ SqT K H p xs ∧ atI xs i = some v ∧ Q v H
def rIxS : R2 := fun x y H Q => ∃ z i c, x = .str z ∧ y = .int i ∧ z.length ≤ sizeLine ∧ atI z.cps.toList i = some c ∧ Q (.str ⟨#[c]⟩) H
theorem ix_list : IxR X (rIxL X.K) := by
  intro value slice pins s σ H x y v u Q I rx ry h hs
  obtain ⟨p, xs, i, z, rfl, rfl, hq, he, q⟩ := h
  cases rx
  obtain ⟨t, rfl⟩ := ry
  obtain ⟨its, r, pl, hz⟩ := I.list hq
  obtain ⟨j, h1, h2, h3, h4, h5⟩ := atI_get he
  obtain ⟨w, ew, rw'⟩ := r.get h2
  have hl := r.length
  have hn := line63
  have fin : EP X pins σ Q w s := ⟨z, H, I, rw', q⟩
  by_cases h0 : 0 ≤ i
  · have hj : i.toNat = j := by
      rw [seqIndex_of h0 h5] at h1
      exact Option.some.inj h1
    exact item_listR pl.isList h0 (by omega) (by rw [hj]; simpa using ew) fin hs
  · have hj : (i + (its.toArray.size : Int)).toNat = j := by
      rw [seqIndex_neg (by omega) h4] at h1
      rw [List.size_toArray, ← hl]
      exact Option.some.inj h1
    exact subscriptTail_builtinR (x := w) pl.isList.typeIs slot_list_getitem.lookup
      (wpAny_getItem_list_neg (Q := fun r s' => r = w ∧ EP X pins σ Q r s') pl.isList (by omega) (by rw [List.size_toArray] <;> omega) (by omega) (by rw [hj]; simpa using ew) ⟨rfl, fin⟩) hs
theorem ix_tup : IxR X (rIxT X.K) := by
  intro value slice pins s σ H x y v u Q I rx ry h hs
  obtain ⟨p, xs, i, z, rfl, rfl, hq, he, q⟩ := h
  cases rx
  obtain ⟨t, rfl⟩ := ry
  obtain ⟨its, r, pl, hz⟩ := I.tuple hq
  obtain ⟨j, h1, h2, h3, h4, h5⟩ := atI_get he
  obtain ⟨w, ew, rw'⟩ := r.get h2
  have hl := r.length
  have hn := line63
  have fin : EP X pins σ Q w s := ⟨z, H, I, rw', q⟩
  exact subscriptTail_builtinR (x := w) pl.typeIs slot_tuple_getitem.lookup
    (getItem_tuple (j := j) (Q := fun r s' => r = w ∧ EP X pins σ Q r s') pl (by omega) (by omega) (by rw [List.size_toArray, ← hl]; exact h1) (by simpa using ew) ⟨rfl, fin⟩) hs
theorem ix_str : IxR X rIxS := by
  intro value slice pins s σ H x y v u Q I rx ry h hs
  obtain ⟨z, i, c, rfl, rfl, hz, he, q⟩ := h
  obtain ⟨t, rfl⟩ := rx
  obtain ⟨t', rfl⟩ := ry
  obtain ⟨j, h1, h2, h3, h4, h5⟩ := atI_get he
  have hl : z.cps.toList.length = z.length := by simp [Str.length]
  rw [hl] at h1 h4 h5
  have hn := line63
  exact tail_any (typeIs_str s z t) slot_str_getitem.lookup (getItem_str (c := c) (by
    have e1 : decide (i < -(2 ^ 63 : Int)) = false := decide_eq_false (by omega)
    have e2 : decide (i ≥ 2 ^ 63) = false := decide_eq_false (by omega)
    rw [e1, e2, Bool.or_false]) (by rw [h1]; simpa using h2) ⟨.str ⟨#[c]⟩, H, I.tok _, ⟨_, rfl⟩, q⟩) hs
def rIx (K : PySem.W.Frag) : R2 := fun x y H Q => rIxL K x y H Q ∨ rIxT K x y H Q ∨ rIxS x y H Q
theorem mapSeq_set (its : List Value) (n j : Nat) (u : Value) : Obj.mapSeq (·.setIfInBounds j u) { cls := .type "list", data := .seq its.toArray n } = { cls := .type "list", data := .seq (its.set j u).toArray n } := by
  simp [Obj.mapSeq]
theorem Inv.lst {pins : List (Addr × Obj)} {σ : St} {H : Hp} {s : Shared} {p : Addr} {xs : List V} (I : Inv X pins σ H s) (h : H p = some (.lst xs)) :
    ∃ (its : List Value) (n : Nat), Vals xs its ∧ s.heap.get? p = some { cls := .type "list", data := .seq its.toArray n } ∧ xs.length ≤ sizeLine := by
  obtain ⟨z, its, n, r, e⟩ := I.hok p _ h
  exact ⟨its, n, r, e, z⟩
theorem Inv.lstUpd {pins : List (Addr × Obj)} {σ : St} {H : Hp} {s : Shared} {p : Addr} {xs ys : List V} {its its' : List Value} {n n' : Nat} {f : Obj → Obj} (I : Inv X pins σ H s) (h : H p = some (.lst xs))
    (ho : s.heap.get? p = some { cls := .type "list", data := .seq its.toArray n }) (hf : f { cls := .type "list", data := .seq its.toArray n } = { cls := .type "list", data := .seq its'.toArray n' }) (r : Vals ys its') (hz : ys.length ≤ sizeLine) (t : Nat) :
    Inv X pins σ (upd H p (.lst ys)) { s with heap := s.heap.update p f, toks := t } := by
  have e : (s.heap.update p f).get? p = some { cls := .type "list", data := .seq its'.toArray n' } := by
    rw [Heap.get?_update_self f ho (by rw [hf] <;> rfl), hf]
  refine I.write (x := p) (e := p) (by rw [h]; trivial) (.inl rfl) (fun b u hb q => (Heap.get?_update_other _ _ (Ne.symm hb)).trans q) ⟨_, e⟩ ?_
  exact ⟨hz, its', n', r, e⟩
def rSetL : V → V → V → Hp → (Hp → Prop) → Prop := fun o i v H Q => ∃ p xs k j, o = .ref p ∧ i = .int k ∧ H p = some (.lst xs) ∧ ixN xs.length k = some j ∧ Q (upd H p (.lst (xs.set j v)))
theorem set_list : PSet X rSetL := by
  intro pins s σ H o i v ov iv u Q I ro ri rv h
  obtain ⟨p, xs, k, j, rfl, rfl, hp, hj, q⟩ := h
  cases ro
  obtain ⟨t, rfl⟩ := ri
  obtain ⟨its, n, r, ho, hz⟩ := I.lst hp
  obtain ⟨h1, h2, h3, h4⟩ := ixN_seq hj
  have hl := r.length
  have hn := line63
  have I' : Inv X pins σ (upd H p (.lst (xs.set j v))) { s with heap := s.heap.update p (Obj.mapSeq (·.setIfInBounds j u)) } :=
    I.lstUpd hp ho (mapSeq_set its n j u) (r.set rv j) (by rw [List.length_set]; exact hz) s.toks
  by_cases h0 : 0 ≤ k
  · have hk : k.toNat = j := by
      rw [seqIndex_of h0 h4] at h1
      exact Option.some.inj h1
    exact PySem.W.ki_setAt ho h0 (by omega) (by rw [List.size_toArray, ← hl]; exact h4) (by rw [hk]; exact ⟨_, I', q⟩)
  · have hk : (k + (its.toArray.size : Int)).toNat = j := by
      rw [seqIndex_neg (by omega) h3] at h1
      rw [List.size_toArray, ← hl]
      exact Option.some.inj h1
    exact PySem.W.ki_setBack ho (by omega) (by rw [List.size_toArray, ← hl]; exact h3) (by omega) (by rw [hk]; exact ⟨_, I', q⟩)

def rSlL (K : PySem.W.Frag) : V → Option Int → Option Int → Hp → VK → Prop := fun x lo hi H Q => ∃ a xs, x = .ref a ∧ SqL K H a xs ∧ ∀ p, H p = none → Q (.ref p) (upd H p (.lst (cutV xs lo hi)))
def flatV : V → Bool
  | .non => true
  | .bl _ => true
  | .int _ => true
  | .str _ => true
  | _ => false
def eqV : V → V → Bool
  | .non, .non => true
  | .bl a, .bl b => a == b
  | .bl a, .int b => (if a then 1 else 0) == b
  | .int a, .bl b => a == (if b then 1 else 0)
  | .int a, .int b => a == b
  | .str a, .str b => a == b
  | _, _ => false
def eqU (x : V) (u : Value) : Bool := match u with
  | .none => eqV .non x
  | .bool b => eqV (.bl b) x
  | .int i _ => eqV (.int i) x
  | .str z _ => eqV (.str z) x
  | _ => false
def inV (x : V) (xs : List V) : Bool := xs.any fun y => eqV y x
def rIn (K : PySem.W.Frag) (neg : Bool) : R2 := fun x y H Q => ∃ p xs, y = .ref p ∧ (SqL K H p xs ∨ SqT K H p xs) ∧ flatV x = true ∧ xs.all flatV = true ∧ Q (.bl (if neg then !inV x xs else inV x xs)) H
theorem call_len_seq : CallR X (.builtin "len") (fun xs H Q => ∃ p ys, xs = [.ref p] ∧ (SqL X.K H p ys ∨ SqT X.K H p ys) ∧ Q (.int ys.length) H) := by
  intro pins s σ H xs us Q I r h
  obtain ⟨p, ys, rfl, hq, q⟩ := h
  obtain ⟨u, rfl, rx⟩ := vals1 r
  cases rx
  have hn := line63
  rcases hq with hq | hq
  · obtain ⟨its, r', pl, hz⟩ := I.list hq
    have hlen := r'.length
    exact Calls.call_len_list pl.isList (by simp only [List.size_toArray] <;> omega) ⟨.int ys.length, H, I.tok _, ⟨s.toks + 1, by rw [List.size_toArray, hlen]⟩, q⟩
  · obtain ⟨its, r', pl, hz⟩ := I.tuple hq
    have hlen := r'.length
    exact len_tuple pl (by simp only [List.size_toArray] <;> omega) ⟨.int ys.length, H, I.tok _, ⟨s.toks + 1, by rw [List.size_toArray, hlen]⟩, q⟩
theorem call_len_str : CallR X (.builtin "len") (fun xs H Q => ∃ z, xs = [.str z] ∧ z.length ≤ sizeLine ∧ Q (.int z.length) H) := by
  intro pins s σ H xs us Q I r h
  obtain ⟨z, rfl, hz, q⟩ := h
  obtain ⟨u, rfl, t, rfl⟩ := vals1 r
  have hn := line63
  exact len_str (by omega) ⟨.int z.length, H, I.tok _, ⟨_, rfl⟩, q⟩
theorem call_list_of : CallR X (.type "list") (fun xs H Q => ∃ p ys, xs = [.ref p] ∧ (SqL X.K H p ys ∨ SqT X.K H p ys) ∧ ∀ l, H l = none → Q (.ref l) (upd H l (.lst ys))) := by
  intro pins s σ H xs us Q I r h
  obtain ⟨p, ys, rfl, hq, q⟩ := h
  obtain ⟨u, rfl, rx⟩ := vals1 r
  cases rx
  have fin : ∀ (its : List Value), Vals ys its → ys.length ≤ sizeLine → ∀ (h' : Heap) (c' : Nat), (∀ b o', s.heap.get? b = some o' → h'.get? b = some o') →
      h'.get? s.heap.objs.size = some { cls := .type "list", dict := none, data := .seq its.toArray c', slots := #[] } → EP X pins σ Q (.ref s.heap.objs.size) { s with heap := h' } := fun its r' hz h' c' kp e =>
    ⟨.ref s.heap.objs.size, _, I.laid (t' := s.toks) kp (Nat.le_refl _) (show ObjOk X.prog X.w _ h' _ (.lst ys) from ⟨hz, its, c', r', e⟩), rfl, q _ (I.hok.fresh (Nat.le_refl _))⟩
  rcases hq with hq | hq
  · obtain ⟨its, r', pl, hz⟩ := I.list hq
    have hlen := r'.length
    obtain ⟨o, ho, hc, n, hd⟩ := pl.isList
    exact call_list_seq p (.inl rfl) ho hc hd (fun h' c' kp e => fin its r' hz h' c' kp e) (by simp only [List.size_toArray] <;> omega)
  · obtain ⟨its, r', pl, hz⟩ := I.tuple hq
    have hlen := r'.length
    obtain ⟨o, ho, hc, n, hd⟩ := pl
    exact call_list_seq p (.inr rfl) ho hc hd (fun h' c' kp e => fin its r' hz h' c' kp e) (by simp only [List.size_toArray] <;> omega)
def tyV (K : PySem.W.Frag) (T : String) (x : V) (H : Hp) : Prop := match x with
  | .str _ => T = "str"
  | .int _ => T = "int"
  | .ref p => (T = "list" ∧ ∃ xs, SqL K H p xs) ∨ (T = "tuple" ∧ ∃ o, K.lookup p = some o ∧ o.cls = .type "tuple" ∧ o.dict = none) ∨
      (T = "dict" ∧ ((∃ kvs, H p = some (.dK kvs)) ∨ ∃ kvs, H p = some (.dT kvs))) ∨ (T = "set" ∧ ∃ S n, H p = some (.set S n))
  | _ => False
theorem tyV_is {pins : List (Addr × Obj)} {σ : St} {H : Hp} {s : Shared} {T : String} {x : V} {v : Value} (I : Inv X pins σ H s) (r : RelV x v) (ty : tyV X.K T x H) :
    s.TypeIs v T ∧ ∀ a, v = .ref a → ∃ ob, s.heap.get? a = some ob ∧ ob.dict = none := by
  cases x with
  | str z =>
    obtain ⟨t, rfl⟩ := r
    cases (show T = "str" from ty)
    exact ⟨typeIs_str s z t, fun _ e => nomatch e⟩
  | int i =>
    obtain ⟨t, rfl⟩ := r
    cases (show T = "int" from ty)
    exact ⟨typeIs_int s i t, fun _ e => nomatch e⟩
  | ref p =>
    cases r
    rcases ty with ⟨rfl, xs, hq⟩ | ⟨rfl, o, hk, hc, hd⟩ | ⟨rfl, hk⟩ | ⟨rfl, S, n, hk⟩
    · obtain ⟨its, _, pl, _⟩ := I.list hq
      refine ⟨pl.isList.typeIs, fun a e => ?_⟩
      cases e
      obtain ⟨o, n, e, c, hd, _⟩ := pl
      exact ⟨o, e, hd⟩
    · refine ⟨⟨o, I.kIn p o hk, hc⟩, fun a e => ?_⟩
      cases e
      exact ⟨o, I.kIn _ o hk, hd⟩
    · have z : ∃ o, s.heap.get? p = some o ∧ o.ExactDict := by
        rcases hk with ⟨kvs, hk⟩ | ⟨kvs, hk⟩
        · obtain ⟨_, _, _, _, o, _, _, e, ex, _⟩ := I.hok p _ hk
          exact ⟨o, e, ex⟩
        · obtain ⟨_, _, _, _, o, _, _, e, ex, _⟩ := I.hok p _ hk
          exact ⟨o, e, ex⟩
      obtain ⟨o, e, ex⟩ := z
      refine ⟨⟨o, e, ex.1⟩, fun a e2 => ?_⟩
      cases e2
      exact ⟨o, e, ex.2.1⟩
    · obtain ⟨o, _, _, _, e, ex, _⟩ := I.hok p _ hk
      refine ⟨⟨o, e, ex.1⟩, fun a e2 => ?_⟩
      cases e2
      exact ⟨o, e, ex.2.1⟩
  | _ => exact False.elim ty
def tBM0 (K : PySem.W.Frag) (T : String) (r : V → List V → Hp → VK → Prop) (to : TE) : TE := fun σ H Q => to σ H fun x H1 => tyV K T x H1 ∧ r x [] H1 Q
def tBM (K : PySem.W.Frag) (T : String) (r : V → List V → Hp → VK → Prop) (to : TE) (t : TA) : TE := fun σ H Q => to σ H fun x H1 => tyV K T x H1 ∧ t σ H1 fun xs H2 => r x xs H2 Q
variable {o e : Expr} {es : List Expr} {to : TE} {t : TA} {name : Str} {apos cpos : Pos} {T id : String} {r : V → List V → Hp → VK → Prop}
theorem pe_bm (pa : PlainAttrs T) (slot : Slot T name id) (hty : typeOf (.builtin id) = pure (.type "method_descriptor")) (hm : MtR X id r) (ho : PE X o to) (ha : PA X (e :: es) t)
    (hbase : attributeBase o name X.env (eval o X.env) = eval o X.env := by rfl)
    (hfew : ((backTo cpos (starEach (e :: es) X.env)).all (fun x => !x.1) && (backToKw cpos (keywordEach [] X.env)).all (fun x => x.1.isSome)
      && decide ((e :: es).length + ([] : List Keyword).length + (if ([] : List Keyword).isEmpty then 0 else 1) < 30)) = true := by rfl)
    (hline : (apos.endLine == cpos.line) = true := by rfl) (hs : starEach (e :: es) X.env = (false, eval e X.env) :: starEach es X.env := by rfl) (hplain : (backTo cpos (starEach es X.env)).any (·.1) = false := by rfl) :
    PE X (.Call (.Attribute o name apos) (e :: es) [] cpos) (tBM X.K T r to t) := by
  intro pins s σ H Q I h
  refine wpAny_Call_method_late hbase hfew hline rfl (thn (ho pins s σ H _ I h) fun v s1 ⟨x, H1, I1, r1, ty, q1⟩ => ?_)
  obtain ⟨h1, h2⟩ := tyV_is I1 r1 ty
  refine ⟨T, id, pa, slot, hty, h1, h2, ?_⟩
  have hA := ha cpos pins s1 σ H1 _ I1 q1
  rw [hs] at hA ⊢
  refine Calls.callWith_builtin (by show (false || (backTo cpos (starEach es X.env)).any (·.1)) = false; rw [hplain] <;> rfl) (Calls.evalArgs_plain ?_)
  exact thn hA fun us s2 ⟨vs, H2, I2, r2, q2⟩ => hm pins s2 σ H2 x vs v us Q I2 r1 r2 q2
end
end L2

namespace L2
open PySem PySem.Spec PyProof.Rows

def MtM (X : Cx) (id : String) (r : V → List V → Hp → VK → Prop) : Prop :=
  ∀ (pins : List (Addr × Obj)) (s : Shared) (σ : St) (H : Hp) (x : V) (xs : List V) (v : Value) (us : List Value) (Q : VK), Inv X pins σ H s → RelV x v → Vals xs us → r x xs H Q →
    wpAny (model X.prog X.w) X.A (call (.builtin id) (v :: us)) (EP X pins σ Q) X.xe s

theorem Vals.one : ∀ {x : V} {us : List Value}, Vals [x] us → ∃ u, us = [u] ∧ RelV x u
  | _, _, .cons r .nil => ⟨_, rfl, r⟩
theorem Vals.rep {xs : List V} {us : List Value} (h : Vals xs us) : ∀ k : Nat, Vals (List.replicate k xs).flatten (List.replicate k us).flatten
  | 0 => .nil
  | k + 1 => by
    rw [List.replicate_succ, List.replicate_succ, List.flatten_cons, List.flatten_cons]
    exact Vals.append h (Vals.rep h k)
theorem foldl_rep (its : List Value) : ∀ (k : Nat) (acc : List Value),
    List.foldl (fun x1 x2 => x1 ++ x2) acc.toArray (List.replicate k its.toArray) = (acc ++ (List.replicate k its).flatten).toArray
  | 0, acc => by simp
  | k + 1, acc => by
    have e : acc.toArray ++ its.toArray = (acc ++ its).toArray := by simp
    have e2 : (acc ++ its) ++ (List.replicate k its).flatten = acc ++ (List.replicate (k + 1) its).flatten := by
      rw [List.replicate_succ, List.flatten_cons, List.append_assoc]
    rw [← e2, ← foldl_rep its k (acc ++ its), ← e, List.replicate_succ, List.foldl_cons]

section
variable {X : Cx} {pins : List (Addr × Obj)} {σ : St} {H : Hp} {s : Shared} {l b : Addr} {xs ys zs : List V}

theorem Inv.lset {its its' : List Value} {n : Nat} {f : Array Value → Array Value} {t' : Nat} (I : Inv X pins σ H s) (hH : H l = some (.lst xs))
    (e : s.heap.get? l = some { cls := .type "list", data := .seq its.toArray n }) (hf : f its.toArray = its'.toArray) (hv : Vals ys its') (hz : ys.length ≤ sizeLine) :
    Inv X pins σ (upd H l (.lst ys)) { s with heap := s.heap.update l (Obj.mapSeq f), toks := t' } := by
  have q := PySem.IsL.update e f
  rw [hf] at q
  refine I.write (x := l) (e := l) (by rw [hH]; exact trivial) (.inl rfl) (fun b' u hb hu => (Heap.get?_update_other s.heap (Obj.mapSeq f) (Ne.symm hb)).trans hu) ⟨_, q⟩ ?_
  exact ⟨hz, its', _, hv, q⟩
theorem Inv.lnew {its : List Value} {t' : Nat} (I : Inv X pins σ H s) (hv : Vals ys its) (hz : ys.length ≤ sizeLine) :
    Inv X pins σ (upd H s.heap.objs.size (.lst ys)) { s with heap := s.heap.push { cls := .type "list", data := .seq its.toArray }, toks := t' } :=
  I.laid (fun _ _ q => Heap.get?_push_of_some _ q) (Nat.le_refl _) ⟨hz, its, 0, hv, Heap.get?_push_size _ rfl⟩
theorem Inv.fresh (I : Inv X pins σ H s) : H s.heap.objs.size = none := I.hok.fresh (Nat.le_refl _)
theorem Inv.lstM (I : Inv X pins σ H s) (hH : H l = some (.lst xs)) : xs.length ≤ sizeLine ∧ ∃ (its : List Value) (n : Nat), Vals xs its ∧ xs.length = its.length ∧ s.heap.get? l = some { cls := .type "list", data := .seq its.toArray n } := by
  obtain ⟨z, its, n, r, e⟩ := I.hok l _ hH
  exact ⟨z, its, n, r, r.length, e⟩

theorem notLongL {n : Nat} (h : n ≤ sizeLine) : Builtin.List.listTooLong n = false := by
  unfold Builtin.List.listTooLong
  exact decide_eq_false (by omega)
end

section
variable {X : Cx}

def rAppend : V → List V → Hp → VK → Prop := fun x vs H Q => ∃ l xs y, x = .ref l ∧ vs = [y] ∧ H l = some (.lst xs) ∧ xs.length < sizeLine ∧ Q .non (upd H l (.lst (xs ++ [y])))
theorem mt_append : MtM X "list.append" rAppend := by
  intro pins s σ H x vs v us Q I rx rv h
  obtain ⟨l, xs, y, rfl, rfl, hH, hz, q⟩ := h
  cases rx
  obtain ⟨u, rfl, ru⟩ := rv.one
  obtain ⟨z, its, n, r, hl, e⟩ := I.lstM hH
  refine call_meets F.slot_list_append ⟨_, e, rfl⟩ F.entry_list_append (F.args_list_append_2 _ _) (PySem.list_append l its.toArray n u (by rw [List.size_toArray]; omega)) ⟨e, ?_⟩
  refine ⟨.non, _, I.lset (its' := its ++ [u]) hH e (by simp) (r.append (.cons ru .nil)) ?_, rfl, q⟩
  rw [List.length_append, List.length_singleton]
  omega

def rExtend : V → List V → Hp → VK → Prop := fun x vs H Q => ∃ l b xs zs, x = .ref l ∧ vs = [.ref b] ∧ H l = some (.lst xs) ∧ H b = some (.lst zs) ∧ xs.length + zs.length ≤ sizeLine ∧ Q .non (upd H l (.lst (xs ++ zs)))
def rPop : V → List V → Hp → VK → Prop := fun x vs H Q => ∃ l xs y, x = .ref l ∧ vs = [] ∧ H l = some (.lst xs) ∧ xs[xs.length - 1]? = some y ∧ Q y (upd H l (.lst xs.dropLast))
def rPopAt : V → List V → Hp → VK → Prop := fun x vs H Q => ∃ l xs i k y, x = .ref l ∧ vs = [.int i] ∧ H l = some (.lst xs) ∧ -(2 ^ 63) ≤ i ∧ i < 2 ^ 63 ∧ seqIndex? i xs.length = some k ∧ xs[k]? = some y ∧ Q y (upd H l (.lst (xs.eraseIdx k)))
def rReverse : V → List V → Hp → VK → Prop := fun x vs H Q => ∃ l xs, x = .ref l ∧ vs = [] ∧ H l = some (.lst xs) ∧ Q .non (upd H l (.lst xs.reverse))
def rClear : V → List V → Hp → VK → Prop := fun x vs H Q => ∃ l xs, x = .ref l ∧ vs = [] ∧ H l = some (.lst xs) ∧ Q .non (upd H l (.lst []))
def rCat : R2 := fun x y H Q => ∃ l b xs zs, x = .ref l ∧ y = .ref b ∧ H l = some (.lst xs) ∧ H b = some (.lst zs) ∧ xs.length + zs.length ≤ sizeLine ∧ ∀ p, H p = none → Q (.ref p) (upd H p (.lst (xs ++ zs)))
def rRep : R2 := fun x y H Q => ∃ l k xs, x = .ref l ∧ y = .int k ∧ H l = some (.lst xs) ∧ -(2 ^ 63) ≤ k ∧ k < 2 ^ 63 ∧ xs.length * k.toNat ≤ sizeLine ∧
  ∀ p, H p = none → Q (.ref p) (upd H p (.lst (List.replicate k.toNat xs).flatten))
theorem len_rep {α : Type} (xs : List α) (k : Nat) : (List.replicate k xs).flatten.length = k * xs.length := by
  induction k with
  | zero => simp
  | succ k ih => rw [List.replicate_succ, List.flatten_cons, List.length_append, ih, Nat.succ_mul, Nat.add_comm]
theorem op_rep : OpR X (binaryOp .Mult) rRep := by
  intro pins s σ H x y v u Q I rx ry h
  obtain ⟨l, k, xs, rfl, rfl, hH, h1, h2, hz, q⟩ := h
  cases rx
  obtain ⟨t, rfl⟩ := ry
  obtain ⟨z, its, n, r, hl, e⟩ := I.lstM hH
  have hlen : its.toArray.size * k.toNat ≤ sizeLine := by rw [List.size_toArray, ← hl]; exact hz
  have hcap : ¬ its.toArray.size * k.toNat > (2 ^ 63 - 1) / 8 := by
    have : (sizeLine : Nat) ≤ (2 ^ 63 - 1) / 8 := by decide
    omega
  have hfit : ¬ (!Builtin.List.listFitsIndex k) = true := by
    rw [fitsIndex_both h1 h2]
    exact Bool.false_ne_true
  have hlong : ¬ Builtin.List.listTooLong (its.toArray.size * k.toNat) = true := by
    rw [notLongL hlen]
    exact Bool.false_ne_true
  have hnew : List.foldl (fun x1 x2 => x1 ++ x2) #[] (List.replicate (if its.toArray.isEmpty = true then 0 else k.toNat) its.toArray) = (List.replicate k.toNat its).flatten.toArray := by
    have f0 : ∀ m : Nat, List.foldl (fun x1 x2 => x1 ++ x2) #[] (List.replicate m its.toArray) = (List.replicate m its).flatten.toArray := fun m => by
      have := foldl_rep its m []
      rw [List.nil_append] at this
      exact this
    rw [f0]
    cases its with
    | nil => simp
    | cons a r' => rw [if_neg (by simp)]
  refine wpAny_binaryOp_repeat_ref (T := "list") (U := "int") (by decide) ⟨_, e, rfl⟩ (fun s' => typeIs_int s' k t) noFill_list_mul F.fills_int_mul F.slot_int_rmul repeat_list F.slot_int_index.lookup
    (call_meets F.slot_int_rmul (typeIs_int s k t) F.entry_int_rmul (F.args_int_rmul_2 _ _) (int___rmul___int_list k t l its.toArray n)
      ⟨e, rfl, ⟨_, e, rfl⟩, call_meets F.slot_list_mul ⟨_, e, rfl⟩ F.entry_list_mul (F.args_list_mul_2 _ _) (AutoListH.list___mul___list_int_3 l its.toArray n k t hfit hcap hlong) ⟨e, ?_⟩⟩)
  rw [hnew]
  exact ⟨.ref _, _, I.lnew (t' := s.toks) (r.rep k.toNat) (by rw [len_rep, Nat.mul_comm]; exact hz), rfl, q _ I.fresh⟩

end

section
variable {prog : Program} {w : World} {A : Around} {E : Value → Shared → Prop} {s : Shared}
end

section
variable {X : Cx}
end
end L2

namespace L2
open PySem PySem.Spec PyProof.Rows

section
variable {κ : Type} [DecidableEq κ]
def valV (kvs : List (κ × V)) (k : κ) : Option V := (kvs.find? fun kv => decide (kv.1 = k)).map (·.2)
def putK (kvs : List (κ × V)) (k : κ) (v : V) : List (κ × V) :=
  if (kvs.any fun kv => decide (kv.1 = k)) = true then kvs.map (fun kv => if kv.1 = k then (kv.1, v) else kv) else kvs ++ [(k, v)]
def dropK (kvs : List (κ × V)) (k : κ) : List (κ × V) := kvs.filter fun kv => decide (kv.1 ≠ k)

end


abbrev KT (H : Hp) : List (List Key × V) → List (List Key × Addr × Value) → Prop := Paired fun p q => p.1 = q.1 ∧ H q.2.1 = some (.tup (p.1.map kV)) ∧ RelV p.2 q.2.2
section
variable {P : Program} {w : World} {H : Hp} {h : Heap} {a : Addr}
end

def DGet (H : Hp) (a : Addr) (y : V) (r : Option V) : Prop :=
  (∃ kvs k, Rd H a (.dK kvs) ∧ y = kV k ∧ r = valV kvs k) ∨ ∃ kvs k b, Rd H a (.dT kvs) ∧ y = .ref b ∧ H b = some (.tup (k.map kV)) ∧ r = valV kvs k
def DPut (H : Hp) (a : Addr) (y v : V) (H' : Hp) : Prop :=
  (∃ kvs k, H a = some (.dK kvs) ∧ y = kV k ∧ kvs.length < sizeLine ∧ H' = upd H a (.dK (putK kvs k v))) ∨
  ∃ kvs k b, H a = some (.dT kvs) ∧ y = .ref b ∧ H b = some (.tup (k.map kV)) ∧ kvs.length < sizeLine ∧ H' = upd H a (.dT (putK kvs k v))
section
variable {X : Cx} {pins : List (Addr × Obj)} {σ : St} {H : Hp} {s : Shared} {a : Addr} {y v : V} {u r : Value} {o : Option V} {A : Around} {E : Value → Shared → Prop}

end

section
variable {X : Cx} {pins : List (Addr × Obj)} {σ : St} {H : Hp} {s : Shared} {a : Addr} {kvs : List (Key × V)} {k : Key} {u : Value} {A : Around} {E : Value → Shared → Prop}
end


def NoSl (i : Expr) : Prop := ∀ ov iv, subscripted i false ov iv = operate [ov, iv] (getItem ov iv)
def tDGet (td ty : TE) : TE := fun σ H Q => td σ H fun x H1 => ty σ H1 fun y H2 => ∃ a v, x = .ref a ∧ DGet H2 a y (some v) ∧ Q v H2
def tDIn (ty td : TE) : TE := fun σ H Q => ty σ H fun y H1 => td σ H1 fun x H2 => ∃ a o, x = .ref a ∧ DGet H2 a y o ∧ Q (.bl o.isSome) H2
def tDNotIn (ty td : TE) : TE := fun σ H Q => ty σ H fun y H1 => td σ H1 fun x H2 => ∃ a o, x = .ref a ∧ DGet H2 a y o ∧ Q (.bl (!o.isSome)) H2
def sDPut (td ty tv : TE) : TS := fun D σ H => tv σ H fun v H1 => td σ H1 fun x H2 => ty σ H2 fun y H3 => ∃ a H4, x = .ref a ∧ DPut H3 a y v H4 ∧ D.nx σ H4
def sDAug (td ty tv : TE) (rd : V → V → Hp → VK → Prop) : TS := fun D σ H => td σ H fun x H1 => ty σ H1 fun y H2 => ∃ a v, x = .ref a ∧ DGet H2 a y (some v) ∧
  tv σ H2 fun y2 H3 => rd v y2 H3 fun z H4 => ∃ H5, DPut H4 a y z H5 ∧ D.nx σ H5
def sDDel (td ty : TE) : TS := fun D σ H => td σ H fun x H1 => ty σ H1 fun y H2 => ∃ a kvs k, x = .ref a ∧ H2 a = some (.dK kvs) ∧ y = kV k ∧ (valV kvs k).isSome = true ∧ D.nx σ (upd H2 a (.dK (dropK kvs k)))

section
variable {X : Cx} {o i e value : Expr} {pos pos' tpos : Pos} {td ty tv : TE}
end


def tDNewK : TE := fun _ H Q => ∀ p, H p = none → Q (.ref p) (upd H p (.dK []))
def tDNewT : TE := fun _ H Q => ∀ p, H p = none → Q (.ref p) (upd H p (.dT []))
section
variable {X : Cx} {pos : Pos}
end

def tPairs : List (TE × TE) → St → Hp → (List (V × V) → Hp → Prop) → Prop
  | [], _, H, Q => Q [] H
  | (tk, tv) :: r, σ, H, Q => tk σ H fun x H1 => tv σ H1 fun y H2 => tPairs r σ H2 fun ps H3 => Q ((x, y) :: ps) H3
abbrev VV : List (V × V) → List (Value × Value) → Prop := Paired fun p q => RelV p.1 q.1 ∧ RelV p.2 q.2
def PPs (X : Cx) (pos : Pos) (keys : List (Option Expr)) (values : List Expr) (trs : List (TE × TE)) : Prop :=
  ∀ (pins : List (Addr × Obj)) (s : Shared) (σ : St) (H : Hp) (Q : List (V × V) → Hp → Prop), Inv X pins σ H s → tPairs trs σ H Q →
    wpAny (model X.prog X.w) X.A (evalPairs (pairTrees keys values X.env pos)) (fun vs s' => ∃ ps H', Inv X pins σ H' s' ∧ VV ps vs ∧ Q ps H') X.xe s
def mergeK (kvs more : List (Key × V)) : List (Key × V) := more.foldl (fun acc kv => putK acc kv.1 kv.2) kvs
def tDisp (trs : List (TE × TE)) : TE := fun σ H Q => ∀ p, H p = none → tPairs trs σ (upd H p (.dK [])) fun ps H2 => H2 p = some (.dK []) ∧ ∃ kvs : List (Key × V), ps = kvs.map (fun kv => (kV kv.1, kv.2)) ∧ kvs.length ≤ 15 ∧ Q (.ref p) (upd H2 p (.dK (mergeK [] kvs)))
structure M1 (X : Cx) (o : Expr) (m : Str) (apos : Pos) (e : Expr) (cpos : Pos) : Prop where
  base : attributeBase o m X.env (eval o X.env) = eval o X.env
  few : ((backTo cpos (starEach [e] X.env)).all (fun x => !x.1) && (backToKw cpos (keywordEach [] X.env)).all (fun x => x.1.isSome)
    && decide (([e] : List Expr).length + ([] : List Keyword).length + (if ([] : List Keyword).isEmpty then 0 else 1) < 30)) = true
  line : (apos.endLine == cpos.line) = true
  trees : backTo cpos (starEach [e] X.env) = [(false, eval e X.env)]
structure M2 (X : Cx) (o : Expr) (m : Str) (apos : Pos) (e f : Expr) (cpos : Pos) : Prop where
  base : attributeBase o m X.env (eval o X.env) = eval o X.env
  few : ((backTo cpos (starEach [e, f] X.env)).all (fun x => !x.1) && (backToKw cpos (keywordEach [] X.env)).all (fun x => x.1.isSome)
    && decide (([e, f] : List Expr).length + ([] : List Keyword).length + (if ([] : List Keyword).isEmpty then 0 else 1) < 30)) = true
  line : (apos.endLine == cpos.line) = true
  trees : backTo cpos (starEach [e, f] X.env) = [(false, eval e X.env), (false, eval f X.env)]

def IsD (H : Hp) (a : Addr) : Prop := (∃ kvs, Rd H a (.dK kvs)) ∨ ∃ kvs, Rd H a (.dT kvs)
section
variable {X : Cx} {pins : List (Addr × Obj)} {σ : St} {H : Hp} {s : Shared} {a : Addr} {y d : V} {u r : Value} {o : Option V} {A : Around} {E : Value → Shared → Prop}
end

def tDGet1 (td ty : TE) : TE := fun σ H Q => td σ H fun x H1 => ∃ a, x = .ref a ∧ IsD H1 a ∧ ty σ H1 fun y H2 => ∃ o, DGet H2 a y o ∧ Q (o.getD .non) H2
def tDGet2 (td ty tx : TE) : TE := fun σ H Q => td σ H fun x H1 => ∃ a, x = .ref a ∧ IsD H1 a ∧ ty σ H1 fun y H2 => tx σ H2 fun z H3 => ∃ o, DGet H3 a y o ∧ Q (o.getD z) H3
def tDPop1 (td ty : TE) : TE := fun σ H Q => td σ H fun x H1 => ∃ a, x = .ref a ∧ IsD H1 a ∧ ty σ H1 fun y H2 => ∃ kvs k v, H2 a = some (.dK kvs) ∧ y = kV k ∧ valV kvs k = some v ∧ Q v (upd H2 a (.dK (dropK kvs k)))
def tDPop2 (td ty tx : TE) : TE := fun σ H Q => td σ H fun x H1 => ∃ a, x = .ref a ∧ IsD H1 a ∧ ty σ H1 fun y H2 => tx σ H2 fun z H3 => ∃ kvs k, H3 a = some (.dK kvs) ∧ y = kV k ∧
  (∀ v, valV kvs k = some v → Q v (upd H3 a (.dK (dropK kvs k)))) ∧ (valV kvs k = none → Q z H3)
section
variable {X : Cx} {o e f : Expr} {apos cpos : Pos} {td ty tx : TE}
end

section
variable {X : Cx} {pins : List (Addr × Obj)} {σ : St} {H : Hp} {s : Shared} {a : Addr} {kvs : List (Key × V)} {A : Around} {E : Value → Shared → Prop}
end


section
variable {X : Cx} {pins : List (Addr × Obj)} {σ : St} {H : Hp} {s : Shared} {a : Addr} {y : V} {u : Value} {A : Around} {E : Value → Shared → Prop}
end
end L2

namespace Att
open PySem PySem.W PySem.Calls PyProof.Rows

theorem ints_of_wellAll {P : Params} {h : Heap} : ∀ (ns : List Int) (vs : List Value), WellAll P h vs (ns.map WData.int) → IntsAre vs ns := by
  intro ns
  induction ns with
  | nil =>
    intro vs w
    rw [List.map_nil] at w
    cases w
    exact .nil
  | cons n ns ih =>
    intro vs w
    rw [List.map_cons] at w
    cases w with
    | cons a b =>
      cases a
      exact .cons _ _ (ih _ b)

theorem script_of {l : OpenLaw} {n : Nat} (hn : l.most = some n) {P : Params} {h : Heap} {args : List WData} {vals : List Value}
    (hpre : l.row.toRowW.claim.pre args = true) (hwl : WellAll P h vals args) :
    ∃ a vs ns, vals = [Value.ref a] ∧ args = [WData.list (ns.map WData.int)] ∧ h.get? a = some { cls := .type "list", data := .seq vs.toArray } ∧ IntsAre vs ns ∧ ns.length ≤ n := by
  have hsh : WShape.hasAll [] args [.list .int] = true := (pre_splitW hpre).1
  have hc : l.pre.holds [] { args := args } = true := (pre_splitW hpre).2
  obtain ⟨d, r, rfl, h1, h2⟩ := hasAllW_cons hsh
  obtain rfl := hasAllW_nil h2
  obtain ⟨xs, rfl, h3⟩ := hasW_list h1
  obtain ⟨ns, rfl⟩ := items_int h3
  have hlen : ns.length ≤ n := by
    unfold OpenLaw.pre at hc
    have h4 : (WTm.not (.lt (.lit (.int (n : Int))) (.len (.arg 0)))).holds [] { args := [.list (ns.map .int)] } = true := by
      have h4 := (holds_andW hc).1
      rw [hn] at h4
      exact h4
    have h5 := condW_of h4 (w_not (w_lt w_lit (w_len_list (w_arg rfl))))
    rw [List.length_map] at h5
    refine Nat.le_of_not_lt fun q => ?_
    have q' : (n : Int) < ((ns.length : Nat) : Int) := by omega
    first
      | (rw [decide_eq_true q'] at h5; exact absurd h5 (by decide))
      | (simp at h5; omega)
  cases hwl with
  | cons w1 w2 =>
    cases w2
    cases w1 with
    | list ho hall => exact ⟨_, _, ns, rfl, rfl, ho, ints_of_wellAll ns _ hall, hlen⟩

theorem post_true (l : OpenLaw) (args : List WData) : l.row.toRowW.claim.post args (.bool true) args = true :=
  postW_of (r := l.row.toRowW) (X := (true == true))
    (show WShape.has [] (.bool true) .bool = true by first | rfl | decide | simp [WShape.has, WShape.arms, WShape.armsAll])
    (show (WTm.eq .res (.lit (.bool true))).value [] { args := args, res := some (.bool true), after := args } = some (.bool (true == true)) from w_eq_bool (w_res rfl) w_lit) rfl

theorem attach_call {l : OpenLaw} {n : Nat} {q : Program} {loose : List Str} {XP : (Str → Option Value) → Heap → Prop} {YP : World → Heap → Prop} {d : DefRec}
    (hn : l.most = some n) (hdf : d.params.defaults = [])
    (call : ∀ (w : World) (s₀ s₁ : Shared) (mg mb : Str → Option Value) (fa : Addr) (o : Obj) (pm cd doc : Value) (a : Addr) (vs : List Value) (ns : List Int),
      Ground q loose [] XP w s₀ mg mb s₁.heap → YP w s₁.heap →
      s₁.heap.get? fa = some o → o.data = .func (docDef d.name d.params d.body d.scope pm cd doc) → s₁.heap.CodeRec cd d.name → mg d.name = some (.ref fa) →
      s₁.heap.get? a = some { cls := .type "list", data := .seq vs.toArray } → IntsAre vs ns → ns.length ≤ n → s₁.gens = #[] →
      codeAny (model l.prog w) callerA (.call (.ref fa) ⟨[.ref a], []⟩) (fun r s' => r = .ok (.ret (.bool true)) ∧ OldK s₁.heap s'.heap ∧ s'.os = s₁.os ∧ AllBare s'.gens) s₁) :
    WalkO q loose XP YP l.row.toRowW d [] (fun f vs => PySem.call f vs) := by
  intro w s₀ s₁ mg mb G Y fa o pm cd doc dV kV ho hd hcd hD hmg hg args vals as hpre hlay hrd hwl hlo
  obtain rfl : dV = .none := Dflts.none hD hdf
  obtain rfl : kV = .none := Dflts.noKw hD
  obtain ⟨a, vs, ns, rfl, rfl, hobj, hints, hlen⟩ := script_of hn hpre hwl
  refine enter_call (codeAny_mono (call w s₀ s₁ mg mb fa o pm cd doc a vs ns G Y ho (fd_plain hd) hcd hmg hobj hints hlen hg) fun r s' hq => ?_)
  obtain ⟨rfl, h2, h3, h4⟩ := hq
  exact ⟨.inl ⟨.bool true, .bool true, [], rfl, fun _ => rfl, .bool true, post_true l _, fun _ => ⟨List.Pairwise.nil, fun _ hm => (nomatch hm)⟩⟩, h2, h3, h4⟩

section
variable {prog : Program} {w : World} {A : Around} {E : Value → Shared → Prop} {s : Shared} {K : Frag}

def noObjs (h : Heap) : Heap := { h with objs := #[] }
def ledger (h : Heap) (L d : Addr) : List (Addr × Obj) := (List.range h.objs.size).filterMap fun a => if a = L ∨ a = d then none else (h.get? a).map fun o => (a, o)
end
end Att

namespace L2
open PySem PySem.Spec PyProof.Rows

theorem vals_ints : ∀ {vs : List Value} {ns : List Int}, IntsAre vs ns → Vals (ns.map V.int) vs
  | _, _, .nil => .nil
  | _, _, .cons n t h => .cons ⟨t, rfl⟩ (vals_ints h)

def Only (H : Hp) : Prop := ∀ b, H b = none ∨ ∃ o xs, H b = some (.frz o (.lst xs))

theorem law_call {P : Program} {w : World} {K : PySem.W.Frag} {mg mb : Str → Option Value} {CX : CXT} {k : Nat} {fa a : Addr} {fd : FuncData} {x : Str} {sp : Sp} {s₁ : Shared} {vs : List Value} {ns : List Int}
    (KX : K.In s₁.heap) (hns : s₁.heap.Ns mainGlobals mg) (hb : s₁.heap.Ns builtinsNs mb) (hbb : ∀ x : Str, x ≠ "__name__" → mb x = bootBuiltins x) (hlim : s₁.heap.NoLimit) (hg : s₁.gens = #[])
    (ha : s₁.heap.get? a = some { cls := .type "list", data := .seq vs.toArray }) (hi : IntsAre vs ns) (hl : ns.length ≤ sizeLine) (hr : Room k callerA)
    (F : ∀ base : Heap, K.In base → base.Ns mainGlobals mg → FnOk P w K mg base CX k fa fd [x] sp) (hbind : ∀ (s : Shared) (u : Value), BindsTo s fd ⟨[u], []⟩ [(x, u)])
    (hsp : ∀ H : Hp, Only H → SqL K H a (ns.map V.int) → sp [.ref a] H (fun v _ => v = .bl true) fun _ _ _ => False)
    (hCX : ∀ H e s', CX [] H s₁ (fun _ _ _ => False) e s' → False) :
    codeAny (model P w) callerA (.call (.ref fa) ⟨[.ref a], []⟩) (fun r s' => r = .ok (.ret (.bool true)) ∧ OldK s₁.heap s'.heap ∧ s'.os = s₁.os ∧ AllBare s'.gens) s₁ := by
  have rv := vals_ints hi
  have lenV := hi.length
  -- from an abstract heap in which nothing but the script may be tracked
  have core : ∀ H : Hp, Only H → SqL K H a (ns.map V.int) → HOk P w H s₁.heap → (∀ b, H b ≠ none → b = a) → (H a ≠ none → K.lookup a = none) →
      codeAny (model P w) callerA (.call (.ref fa) ⟨[.ref a], []⟩) (fun r s' => r = .ok (.ret (.bool true)) ∧ OldK s₁.heap s'.heap ∧ s'.os = s₁.os ∧ AllBare s'.gens) s₁ := by
    intro H hO hS hok hA hK
    have base_of : ∀ {b : Addr} {o : Obj}, s₁.heap.get? b = some o → H b = none → (hidT s₁.heap H).get? b = some o := fun e n => hidT_get e n
    have noA : ∀ {b : Addr} {o : Obj} {es : Array DictEntry} {ep : Nat}, s₁.heap.get? b = some o → o.data = .dict es ep → H b = none := fun {b o es ep} e d => by
      cases q : H b with
      | none => rfl
      | some u =>
        have e' : b = a := hA b (by rw [q]; simp)
        subst e'
        rw [ha] at e; cases e
        have d' : Data.seq vs.toArray _ = Data.dict es ep := d
        cases d'
    have nsK : ∀ {b : Addr} {m : Str → Option Value}, s₁.heap.Ns b m → (hidT s₁.heap H).Ns b m := fun {b m} ⟨o, es, ep, e, d, r⟩ => ⟨o, es, ep, base_of e (noA e d), d, r⟩
    have hKb : K.In (hidT s₁.heap H) := fun b o e => base_of (KX b o e) (by
      cases q : H b with
      | none => rfl
      | some u =>
        have e' : b = a := hA b (by rw [q]; simp)
        subst e'
        rw [hK (by rw [q]; simp)] at e; cases e)
    have hM : Mod K mg (hidT s₁.heap H) := ⟨hKb, nsK hns, ⟨mb, nsK hb, hbb⟩, let ⟨mc, h1, h2⟩ := hlim; ⟨mc, nsK h1, h2⟩⟩
    have e0 : Env0 P w K mg (hidT s₁.heap H) callerA [] s₁ H := ⟨rfl, hM, fun b o e => of_hidT e, Nat.le_of_eq (hidT_size _ _), trivial, fun b hb => absurd (show b ∈ ([] : List Addr) from hb) (by simp), hok, .of_eq hg⟩
    refine codeAny_mono ((F _ hKb (nsK hns)).run callerA [] s₁ H ⟨[.ref a], []⟩ [.ref a] [.ref a] _ _ hr e0 (hbind s₁ (.ref a)) (.cons rfl .nil) (hsp H hO hS)) fun r s' h => ?_
    cases r with
    | error e => exact (hCX H e s' h).elim
    | ok fl =>
      cases fl with
      | next => exact False.elim h
      | brk => exact False.elim h
      | cont => exact False.elim h
      | ret u =>
        obtain ⟨v, H', os, bare, un, hok', r', q⟩ := h
        have q' : v = .bl true := q
        subst q'
        obtain rfl : u = Value.bool true := r'
        refine ⟨rfl, OldK.of_keep fun b o e => ?_, os, bare⟩
        cases q : H b with
        | none => exact un.keep b o e q (by intro z; exact absurd (show b ∈ ([] : List Addr) from z) (by simp)) (by simp)
        | some u =>
          rcases hO b with z | ⟨ob, xs, z⟩
          · rw [q] at z; cases z
          · have z2 := un.frzs b ob _ z
            obtain ⟨e1, _⟩ := hok b _ z
            obtain ⟨e2, _⟩ := hok' b _ z2
            rw [e] at e1; cases e1
            exact e2
  cases hk : K.lookup a with
  | some o =>
    -- the script is one of the module's own objects
    have e := KX a o hk
    rw [ha] at e
    cases e
    refine core (fun _ => none) (fun _ => .inl rfl) (.inr ⟨_, vs.toArray, _, hk, rfl, rfl, rfl, by rw [List.size_toArray, lenV]; exact hl, by simpa using rv⟩) (fun b u z => by have z' : (none : Option HO) = some u := z; cases z') (fun b z => absurd rfl z) fun z => absurd rfl z
  | none =>
    refine core (fun b => if b = a then some (.frz { cls := .type "list", data := .seq vs.toArray } (.lst (ns.map V.int))) else none) (fun b => ?_) (.inl (.inr ⟨{ cls := .type "list", data := .seq vs.toArray }, if_pos rfl⟩)) (fun b u z => ?_) (fun b z => ?_) fun _ => hk
    · by_cases hb : b = a
      · exact .inr ⟨_, _, if_pos hb⟩
      · exact .inl (if_neg hb)
    · by_cases hb : b = a
      · have z' := (if_pos hb).symm.trans z
        cases z'
        subst hb
        exact ⟨ha, by rw [List.length_map]; exact hl, vs, _, rv, ha⟩
      · have z' := (if_neg hb).symm.trans z
        cases z'
    · by_cases hb : b = a
      · exact hb
      · exact absurd (if_neg hb) z
end L2

namespace L2
open PySem PySem.Spec PyProof.Rows

abbrev KOf {K : PySem.W.Frag} {h : Heap} (_ : K.In h) : PySem.W.Frag := K

theorem walk_of {l : PySem.W.OpenLaw} {n k : Nat} {q : Program} {loose : List Str} {XP : (Str → Option Value) → Heap → Prop} {YP : World → Heap → Prop} {d : DefRec} {K : Params → PySem.W.Frag} {CX : World → CXT} {sp : World → Sp} {x : Str}
    (hn : l.most = some n) (hn2 : n ≤ sizeLine) (hdf : d.params.defaults = []) (hr : Room k callerA)
    (hY : ∀ (w : World) (h : Heap), YP w h → (K w.params).In h)
    (F : ∀ (w : World) (mg : Str → Option Value) (fa : Addr) (h : Heap), (K w.params).In h → h.Ns mainGlobals mg → mg d.name = some (.ref fa) →
      ∃ fd : FuncData, (∀ (s : Shared) (u : Value), BindsTo s fd ⟨[u], []⟩ [(x, u)]) ∧
        ∀ base : Heap, (K w.params).In base → base.Ns mainGlobals mg → FnOk l.prog w (K w.params) mg base (CX w) k fa fd [x] (sp w))
    (hsp : ∀ (w : World) (H : Hp) (a : Addr) (ns : List Int), ns.length ≤ n → Only H → SqL (K w.params) H a (ns.map V.int) → sp w [.ref a] H (fun v _ => v = .bl true) fun _ _ _ => False)
    (hCX : ∀ (w : World) (H : Hp) (s : Shared) (e : Value) (s' : Shared), CX w [] H s (fun _ _ _ => False) e s' → False) :
    PySem.W.WalkO q loose XP YP l.row.toRowW d [] (fun f vs => PySem.call f vs) := by
  refine Att.attach_call hn hdf fun w s₀ s₁ mg mb fa o pm cd doc a vs ns G Y ho hd hcd hmg hobj hints hlen hg => ?_
  have KX := hY w _ Y
  obtain ⟨fd, hb, hF⟩ := F w mg fa _ KX G.T.g hmg
  exact law_call KX G.T.g G.T.b G.T.builtins G.T.nolimit hg hobj hints (Nat.le_trans hlen hn2) hr hF hb (fun H hO hS => hsp w H a ns hlen hO hS) fun H e s' => hCX w H s₁ e s'
end L2

namespace L2
open PySem PySem.Spec PyProof.Rows

def inClass (s : Stmt) (j : Nat) : Stmt := match s with
  | .ClassDef _ _ _ body _ _ _ _ _ _ _ => body.getD j (.Pass ⟨0, 0, 0, 0⟩)
  | _ => .Pass ⟨0, 0, 0, 0⟩
def defArgs (s : Stmt) : Arguments := match s with
  | .FunctionDef _ a _ _ _ _ _ _ _ _ => a
  | _ => { posonlyargs := [], args := [], vararg := none, kwonlyargs := [], kw_defaults := [], kwarg := none, defaults := [] }
def defBody (s : Stmt) : List Stmt := match s with
  | .FunctionDef _ _ b _ _ _ _ _ _ _ => b
  | _ => []
def defScope (s : Stmt) : Scope := match s with
  | .FunctionDef _ _ _ _ _ _ sc _ _ _ => sc
  | _ => { kind := .function, names := [], isGenerator := false, isCoroutine := false }

abbrev CX0 : CXT := fun _ _ _ _ _ _ => False
abbrev E0 : XK := fun _ _ _ => False
structure Fun (K : PySem.W.Frag) (x qual : Str) (st : Stmt) (f : Addr) (fd : FuncData) : Prop where
  ex : ∃ (oc : Value) (od : Option Addr) (kV doc pm : Value) (an : Option Addr) (cdv ct : Value) (osl : Array (Option Value)),
    fd = PySem.W.fnOf x qual (defArgs st) (defBody st) (defScope st) .none kV doc pm an cdv ct ∧ K.lookup f = some ⟨oc, od, .func fd, osl⟩ ∧ PySem.W.codeIn K cdv qual = true
  kp : PySem.W.keepIn K (.ref f) = true
section
variable {P : Program} {w : World} {K : PySem.W.Frag} {mg : Str → Option Value} {base : Heap}
theorem Fun.binds {x qual : Str} {st : Stmt} {f : Addr} {fd : FuncData} {ps : List Str} (F : Fun K x qual st f fd)
    (h : ∀ (kV doc pm : Value) (an : Option Addr) (cdv ct : Value) (us : List Value), us.length = ps.length → bindArgs (PySem.W.fnOf x qual (defArgs st) (defBody st) (defScope st) .none kV doc pm an cdv ct) ⟨us, []⟩ = pure (ps.zip us)) : Binds K fd ps [] := by
  obtain ⟨oc, od, kV, doc, pm, an, cdv, ct, osl, rfl, lk, hcd⟩ := F.ex
  exact .all (h kV doc pm an cdv ct)
theorem fun_mk {x qual : Str} {st : Stmt} {f : Addr} {oc : Value} {od an : Option Addr} {osl : Array (Option Value)} {kV doc pm cdv ct : Value} (l : K.lookup f = some ⟨oc, od, .func (PySem.W.fnOf x qual (defArgs st) (defBody st) (defScope st) .none kV doc pm an cdv ct), osl⟩)
    (c : PySem.W.codeIn K cdv qual = true) (k : PySem.W.keepIn K (.ref f) = true) : Fun K x qual st f (PySem.W.fnOf x qual (defArgs st) (defBody st) (defScope st) .none kV doc pm an cdv ct) := ⟨⟨oc, od, kV, doc, pm, an, cdv, ct, osl, rfl, l, c⟩, k⟩
end
section
variable {X : Cx}
end

def Same (H H' : Hp) : Prop := ∀ b o, H b = some o → H' b = some o
theorem Same.refl (H : Hp) : Same H H := fun _ _ h => h
theorem Same.trans {H H1 H2 : Hp} (a : Same H H1) (b : Same H1 H2) : Same H H2 := fun c o h => b c o (a c o h)
theorem Same.free {H H' : Hp} (e : Same H H') {l : Addr} (h : H' l = Option.none) : H l = Option.none := by
  cases q : H l with
  | none => rfl
  | some o =>
    rw [e l o q] at h
    cases h
theorem Same.seq {K : PySem.W.Frag} {H H' : Hp} {a : Addr} {xs : List V} (e : Same H H') (h : SqL K H a xs) : SqL K H' a xs := by
  rcases h with (h | ⟨o, h⟩) | h
  · exact .inl (.inl (e _ _ h))
  · exact .inl (.inr ⟨o, e _ _ h⟩)
  · exact .inr h

end L2

namespace L2
open PySem PySem.Spec PyProof.Rows
section
variable {X : Cx}
end
section
variable {κ : Type} [DecidableEq κ]
end
end L2


namespace L3
open PySem PySem.Spec PyProof.Rows L2
abbrev St := L2.St

inductive D where
  | non | bl (b : Bool) | int (i : Int) | str (x : Str) | tup (xs : List D) | lst (xs : List D) | exc (C : Addr) | ptr (a : Addr)
  | obj (C : Addr) (fs : List Str) (xs : List D) | dic (ks : List Key) (xs : List D) | dit (ks : List (List Key)) (xs : List D)

def excO (a C : Addr) : HO := .ext fun h => ∃ o vs, h.get? a = some o ∧ o.cls = .ref C ∧ o.data = .fields vs

mutual
def Rep (K : PySem.W.Frag) (F : Hp) : D → V → Prop
  | .non, v => v = .non
  | .bl b, v => v = .bl b
  | .int i, v => v = .int i
  | .str x, v => v = .str x
  | .tup ds, v => ∃ a vs, v = .ref a ∧ SqT K F a vs ∧ Reps K F ds vs
  | .lst ds, v => ∃ a vs, v = .ref a ∧ SqL K F a vs ∧ Reps K F ds vs
  | .exc C, v => ∃ a, v = .ref a ∧ F a = some (excO a C)
  | .ptr a, v => v = .ref a
  | .obj C fs ds, v => ∃ a dx vs, v = .ref a ∧ F a = some (.ins C dx (fs.zip vs)) ∧ F dx = some (.own a) ∧ fs.length = vs.length ∧ Reps K F ds vs
  | .dic ks ds, v => ∃ a vs, v = .ref a ∧ F a = some (.dK (ks.zip vs)) ∧ ks.length = vs.length ∧ Reps K F ds vs
  | .dit ks ds, v => ∃ a vs, v = .ref a ∧ F a = some (.dT (ks.zip vs)) ∧ ks.length = vs.length ∧ Reps K F ds vs
def Reps (K : PySem.W.Frag) (F : Hp) : List D → List V → Prop
  | [], vs => vs = []
  | d :: ds, vs => ∃ v r, vs = v :: r ∧ Rep K F d v ∧ Reps K F ds r
end

theorem sqT_mono {K : PySem.W.Frag} {H H' : Hp} {a : Addr} {xs : List V} (e : Same H H') (h : SqT K H a xs) : SqT K H' a xs := by
  rcases h with (h | ⟨o, h⟩) | h
  · exact .inl (.inl (e _ _ h))
  · exact .inl (.inr ⟨o, e _ _ h⟩)
  · exact .inr h

mutual
theorem rep_mono {K : PySem.W.Frag} {F F' : Hp} (e : Same F F') : ∀ (d : D) (v : V), Rep K F d v → Rep K F' d v
  | .non, _, h => by unfold Rep at h ⊢; exact h
  | .bl _, _, h => by unfold Rep at h ⊢; exact h
  | .int _, _, h => by unfold Rep at h ⊢; exact h
  | .str _, _, h => by unfold Rep at h ⊢; exact h
  | .tup ds, _, h => by
    unfold Rep at h ⊢
    obtain ⟨a, vs, h0, h1, h2⟩ := h
    exact ⟨a, vs, h0, sqT_mono e h1, reps_mono e ds vs h2⟩
  | .lst ds, _, h => by
    unfold Rep at h ⊢
    obtain ⟨a, vs, h0, h1, h2⟩ := h
    exact ⟨a, vs, h0, e.seq h1, reps_mono e ds vs h2⟩
  | .ptr _, _, h => by unfold Rep at h ⊢; exact h
  | .exc C, _, h => by
    unfold Rep at h ⊢
    obtain ⟨a, h0, h1⟩ := h
    exact ⟨a, h0, e _ _ h1⟩
  | .obj C fs ds, _, h => by
    unfold Rep at h ⊢
    obtain ⟨a, dx, vs, h0, h1, h2, h3, h4⟩ := h
    exact ⟨a, dx, vs, h0, e _ _ h1, e _ _ h2, h3, reps_mono e ds vs h4⟩
  | .dic ks ds, _, h => by
    unfold Rep at h ⊢
    obtain ⟨a, vs, h0, h1, h3, h4⟩ := h
    exact ⟨a, vs, h0, e _ _ h1, h3, reps_mono e ds vs h4⟩
  | .dit ks ds, _, h => by
    unfold Rep at h ⊢
    obtain ⟨a, vs, h0, h1, h3, h4⟩ := h
    exact ⟨a, vs, h0, e _ _ h1, h3, reps_mono e ds vs h4⟩
theorem reps_mono {K : PySem.W.Frag} {F F' : Hp} (e : Same F F') : ∀ (ds : List D) (vs : List V), Reps K F ds vs → Reps K F' ds vs
  | [], _, h => by unfold Reps at h ⊢; exact h
  | d :: ds, _, h => by
    unfold Reps at h ⊢
    obtain ⟨v, r, h0, h1, h2⟩ := h
    exact ⟨v, r, h0, rep_mono e d v h1, reps_mono e ds r h2⟩
end
theorem Rep.up {K : PySem.W.Frag} {F F' : Hp} {d : D} {v : V} (h : Rep K F d v) (e : Same F F') : Rep K F' d v := rep_mono e d v h
theorem Reps.up {K : PySem.W.Frag} {F F' : Hp} {ds : List D} {vs : List V} (h : Reps K F ds vs) (e : Same F F') : Reps K F' ds vs := reps_mono e ds vs h
theorem reps_len {K : PySem.W.Frag} {F : Hp} : ∀ {ds : List D} {vs : List V}, Reps K F ds vs → ds.length = vs.length
  | [], _, h => by unfold Reps at h; subst h; rfl
  | _ :: _, _, h => by
    unfold Reps at h
    obtain ⟨v, r, rfl, _, h2⟩ := h
    simp only [List.length_cons, reps_len h2]
theorem reps_get {K : PySem.W.Frag} {F : Hp} : ∀ {ds : List D} {vs : List V} {i : Nat} {d : D}, Reps K F ds vs → ds[i]? = some d → ∃ v, vs[i]? = some v ∧ Rep K F d v
  | [], _, _, _, _, e => by simp at e
  | _ :: _, _, 0, _, h, e => by
    unfold Reps at h
    obtain ⟨v, r, rfl, h1, _⟩ := h
    simp at e; subst e
    exact ⟨v, rfl, h1⟩
  | _ :: _, _, i + 1, d, h, e => by
    unfold Reps at h
    obtain ⟨v, r, rfl, _, h2⟩ := h
    obtain ⟨u, e1, e2⟩ := reps_get (i := i) h2 (by simpa using e)
    exact ⟨u, by simpa using e1, e2⟩
theorem reps_get' {K : PySem.W.Frag} {F : Hp} : ∀ {ds : List D} {vs : List V} {i : Nat} {v : V}, Reps K F ds vs → vs[i]? = some v → ∃ d, ds[i]? = some d ∧ Rep K F d v
  | [], _, _, _, h, e => by unfold Reps at h; subst h; simp at e
  | d :: _, _, 0, _, h, e => by
    unfold Reps at h
    obtain ⟨v, r, rfl, h1, _⟩ := h
    simp at e; subst e
    exact ⟨d, rfl, h1⟩
  | _ :: _, _, i + 1, v, h, e => by
    unfold Reps at h
    obtain ⟨v', r, rfl, _, h2⟩ := h
    obtain ⟨u, e1, e2⟩ := reps_get' (i := i) h2 (by simpa using e)
    exact ⟨u, by simpa using e1, e2⟩
theorem reps_app {K : PySem.W.Frag} {F : Hp} : ∀ {ds es : List D} {vs us : List V}, Reps K F ds vs → Reps K F es us → Reps K F (ds ++ es) (vs ++ us)
  | [], _, _, _, h, k => by unfold Reps at h; subst h; exact k
  | _ :: _, _, _, _, h, k => by
    unfold Reps at h
    obtain ⟨v, r, rfl, h1, h2⟩ := h
    show Reps K F (_ :: (_ ++ _)) _
    unfold Reps
    exact ⟨v, _, rfl, h1, reps_app h2 k⟩
theorem reps_one {K : PySem.W.Frag} {F : Hp} {d : D} {v : V} (h : Rep K F d v) : Reps K F [d] [v] := by
  unfold Reps
  exact ⟨v, [], rfl, h, by unfold Reps; rfl⟩
theorem reps_cons {K : PySem.W.Frag} {F : Hp} {d : D} {v : V} {ds : List D} {vs : List V} (h : Rep K F d v) (k : Reps K F ds vs) : Reps K F (d :: ds) (v :: vs) := by
  unfold Reps
  exact ⟨v, vs, rfl, h, k⟩
structure Gr (F H F' H' : Hp) : Prop where
  f : Same F F'
  g : Same F' H'
  h : Same H H'
  n : ∀ b o, F' b = some o → F b = none → H b = none
theorem Gr.refl {F H : Hp} (h : Same F H) : Gr F H F H := ⟨.refl _, h, .refl _, fun b o e n => by rw [e] at n; cases n⟩
theorem Gr.trans {F H F1 H1 F2 H2 : Hp} (a : Gr F H F1 H1) (b : Gr F1 H1 F2 H2) : Gr F H F2 H2 := by
  refine ⟨a.f.trans b.f, b.g, a.h.trans b.h, fun c o e n => ?_⟩
  cases q : F1 c with
  | none => exact a.h.free (b.n c o e q)
  | some u => exact a.n c u q n
theorem Gr.laid {F H : Hp} {p : Addr} {o : HO} (h : Same F H) (hp : H p = none) : Gr F H (L2.upd F p o) (L2.upd H p o) := by
  refine ⟨fun b u e => ?_, fun b u e => ?_, fun b u e => ?_, fun b u e n => ?_⟩
  · rw [upd_ne (ne_of_none (h b u e) hp)]; exact e
  · by_cases hb : b = p
    · subst hb; rw [upd_same] at e ⊢; exact e
    · rw [upd_ne hb] at e ⊢; exact h b u e
  · rw [upd_ne (ne_of_none e hp)]; exact e
  · by_cases hb : b = p
    · subst hb; exact hp
    · rw [upd_ne hb, n] at e; cases e

inductive Slot where
  | no | pu (d : D) | ow (ds : List D)

def SlotR (K : PySem.W.Frag) (F H H0 : Hp) : Slot → Option V → Prop
  | .no, _ => True
  | .pu d, o => ∃ v, o = some v ∧ Rep K F d v
  | .ow ds, o => ∃ a vs, o = some (.ref a) ∧ H a = some (.lst vs) ∧ F a = none ∧ H0 a = none ∧ Reps K F ds vs

structure SR (K : PySem.W.Frag) (F0 H0 F H : Hp) (σ : St) (Γ : List Slot) : Prop where
  gr : Gr F0 H0 F H
  len : σ.length = Γ.length
  sl : ∀ (i : Nat) s, Γ[i]? = some s → ∃ o, σ[i]? = some o ∧ SlotR K F H H0 s o
  ap : ∀ (i j : Nat) a ds es, Γ[i]? = some (.ow ds) → Γ[j]? = some (.ow es) → σ[i]? = some (some (.ref a)) → σ[j]? = some (some (.ref a)) → i = j

section
variable {K : PySem.W.Frag} {F0 H0 F H F' H' : Hp} {σ : St} {Γ : List Slot}
theorem SR.g (R : SR K F0 H0 F H σ Γ) : Same F H := R.gr.g
theorem slotR_grow {s : Slot} {o : Option V} (r : SlotR K F H H0 s o) (g : Gr F H F' H') : SlotR K F' H' H0 s o := by
  cases s with
  | no => trivial
  | pu d =>
    obtain ⟨v, e, r⟩ := r
    exact ⟨v, e, r.up g.f⟩
  | ow ds =>
    obtain ⟨a, vs, e, e1, e2, e3, r⟩ := r
    refine ⟨a, vs, e, g.h _ _ e1, ?_, e3, r.up g.f⟩
    cases q : F' a with
    | none => rfl
    | some u => have z := g.n a u q e2; rw [e1] at z; cases z
theorem SR.grow (R : SR K F0 H0 F H σ Γ) (g : Gr F H F' H') : SR K F0 H0 F' H' σ Γ := by
  refine ⟨R.gr.trans g, R.len, fun i s e => ?_, R.ap⟩
  obtain ⟨o, e1, r⟩ := R.sl i s e
  exact ⟨o, e1, slotR_grow r g⟩
theorem SR.set {d : D} {v : V} (R : SR K F0 H0 F H σ Γ) (i : Nat) (r : Rep K F d v) : SR K F0 H0 F H (σ.set i (some v)) (Γ.set i (.pu d)) := by
  refine ⟨R.gr, by simp [R.len], fun j s e => ?_, fun j k a ds es e1 e2 e3 e4 => ?_⟩
  · by_cases hj : i = j
    · subst hj
      have hi : i < Γ.length := by
        rcases Nat.lt_or_ge i Γ.length with h | h
        · exact h
        · rw [List.getElem?_eq_none (by simpa using h)] at e; cases e
      rw [List.getElem?_set_self hi] at e
      cases e
      exact ⟨some v, List.getElem?_set_self (by rw [R.len]; exact hi), v, rfl, r⟩
    · rw [List.getElem?_set_ne hj] at e
      rw [List.getElem?_set_ne hj]
      exact R.sl j s e
  · have hj : i ≠ j := fun z => by
      subst z
      rcases Nat.lt_or_ge i Γ.length with h | h
      · rw [List.getElem?_set_self h] at e1; cases e1
      · rw [List.getElem?_eq_none (by simpa using h)] at e1; cases e1
    have hk : i ≠ k := fun z => by
      subst z
      rcases Nat.lt_or_ge i Γ.length with h | h
      · rw [List.getElem?_set_self h] at e2; cases e2
      · rw [List.getElem?_eq_none (by simpa using h)] at e2; cases e2
    rw [List.getElem?_set_ne hj] at e1 e3
    rw [List.getElem?_set_ne hk] at e2 e4
    exact R.ap j k a ds es e1 e2 e3 e4
theorem SR.drop (R : SR K F0 H0 F H σ Γ) (i : Nat) (o : Option V) : SR K F0 H0 F H (σ.set i o) (Γ.set i .no) := by
  refine ⟨R.gr, by simp [R.len], fun j s e => ?_, fun j k a ds es e1 e2 e3 e4 => ?_⟩
  · by_cases hj : i = j
    · subst hj
      have hi : i < Γ.length := by
        rcases Nat.lt_or_ge i Γ.length with h | h
        · exact h
        · rw [List.getElem?_eq_none (by simpa using h)] at e; cases e
      rw [List.getElem?_set_self hi] at e
      cases e
      exact ⟨o, List.getElem?_set_self (by rw [R.len]; exact hi), trivial⟩
    · rw [List.getElem?_set_ne hj] at e
      rw [List.getElem?_set_ne hj]
      exact R.sl j s e
  · have hj : i ≠ j := fun z => by
      subst z
      rcases Nat.lt_or_ge i Γ.length with h | h
      · rw [List.getElem?_set_self h] at e1; cases e1
      · rw [List.getElem?_eq_none (by simpa using h)] at e1; cases e1
    have hk : i ≠ k := fun z => by
      subst z
      rcases Nat.lt_or_ge i Γ.length with h | h
      · rw [List.getElem?_set_self h] at e2; cases e2
      · rw [List.getElem?_eq_none (by simpa using h)] at e2; cases e2
    rw [List.getElem?_set_ne hj] at e1 e3
    rw [List.getElem?_set_ne hk] at e2 e4
    exact R.ap j k a ds es e1 e2 e3 e4
def Apart (σ : St) (Γ : List Slot) (a : Addr) : Prop := ∀ (j : Nat) es, Γ[j]? = some (.ow es) → σ[j]? ≠ some (some (.ref a))
theorem SR.apart (R : SR K F0 H0 F H σ Γ) {a : Addr} (h : H a = none) : Apart σ Γ a := fun j es e z => by
  obtain ⟨o, e1, b, vs, e2, e3, _⟩ := R.sl j _ e
  rw [z] at e1; cases e1; cases e2
  rw [h] at e3; cases e3
theorem SR.setOw {ds : List D} {vs : List V} {a : Addr} (R : SR K F0 H0 F H σ Γ) (i : Nat) (h1 : H a = some (.lst vs)) (h2 : F a = none) (h3 : H0 a = none) (r : Reps K F ds vs) (ha : Apart σ Γ a) :
    SR K F0 H0 F H (σ.set i (some (.ref a))) (Γ.set i (.ow ds)) := by
  refine ⟨R.gr, by simp [R.len], fun j s e => ?_, fun j k b es fs e1 e2 e3 e4 => ?_⟩
  · by_cases hj : i = j
    · subst hj
      have hi : i < Γ.length := by
        rcases Nat.lt_or_ge i Γ.length with h | h
        · exact h
        · rw [List.getElem?_eq_none (by simpa using h)] at e; cases e
      rw [List.getElem?_set_self hi] at e
      cases e
      exact ⟨_, List.getElem?_set_self (by rw [R.len]; exact hi), a, vs, rfl, h1, h2, h3, r⟩
    · rw [List.getElem?_set_ne hj] at e
      rw [List.getElem?_set_ne hj]
      exact R.sl j s e
  · have hi : ∀ {k : Nat} {fs : List D}, (Γ.set i (Slot.ow ds))[k]? = some (.ow fs) → (σ.set i (some (.ref a)))[k]? = some (some (.ref b)) → (k = i ∧ b = a) ∨ (k ≠ i ∧ Γ[k]? = some (.ow fs) ∧ σ[k]? = some (some (.ref b))) := by
      intro k fs q1 q2
      by_cases hk : i = k
      · subst hk
        have hl : i < σ.length := by
          rcases Nat.lt_or_ge i σ.length with h | h
          · exact h
          · rw [List.getElem?_eq_none (by simpa using h)] at q2; cases q2
        rw [List.getElem?_set_self hl] at q2
        cases q2
        exact .inl ⟨rfl, rfl⟩
      · rw [List.getElem?_set_ne hk] at q1 q2
        exact .inr ⟨Ne.symm hk, q1, q2⟩
    rcases hi e1 e3 with ⟨rfl, rfl⟩ | ⟨n1, q1, q2⟩
    · rcases hi e2 e4 with ⟨rfl, _⟩ | ⟨n2, q3, q4⟩
      · rfl
      · exact (ha _ _ q3 q4).elim
    · rcases hi e2 e4 with ⟨rfl, rfl⟩ | ⟨n2, q3, q4⟩
      · exact (ha _ _ q1 q2).elim
      · exact R.ap j k b es fs q1 q3 q2 q4
theorem frz_gr {a : Addr} {vs : List V} (g : Same F H) (h1 : H a = some (.lst vs)) (h2 : F a = none) : Same F (L2.upd F a (.lst vs)) ∧ Same (L2.upd F a (.lst vs)) H := by
  refine ⟨fun b u e => ?_, fun b u e => ?_⟩
  · rw [upd_ne (ne_of_none e h2)]; exact e
  · by_cases hb : b = a
    · subst hb; rw [upd_same] at e; cases e; exact h1
    · rw [upd_ne hb] at e; exact g b u e
theorem SR.frzA {a : Addr} {vs : List V} (R : SR K F0 H0 F H σ Γ) (h1 : H a = some (.lst vs)) (h2 : F a = none) (h3 : H0 a = none) (ha : Apart σ Γ a) : SR K F0 H0 (L2.upd F a (.lst vs)) H σ Γ := by
  obtain ⟨s1, s2⟩ := frz_gr R.g h1 h2
  refine ⟨⟨R.gr.f.trans s1, s2, R.gr.h, fun b o e n => ?_⟩, R.len, fun j s e => ?_, R.ap⟩
  · by_cases hb : b = a
    · subst hb; exact h3
    · rw [upd_ne hb] at e; exact R.gr.n b o e n
  · obtain ⟨o, e1, r⟩ := R.sl j s e
    refine ⟨o, e1, ?_⟩
    cases s with
    | no => trivial
    | pu d => obtain ⟨v, e2, r⟩ := r; exact ⟨v, e2, r.up s1⟩
    | ow ds =>
      obtain ⟨b, us, e2, q1, q2, q3, r⟩ := r
      refine ⟨b, us, e2, q1, ?_, q3, r.up s1⟩
      have : b ≠ a := fun z => by
        subst z; subst e2
        exact ha j ds e e1
      rw [upd_ne this]; exact q2
theorem SR.frz {i : Nat} {ds : List D} (R : SR K F0 H0 F H σ Γ) (e : Γ[i]? = some (.ow ds)) : ∃ a F', σ[i]? = some (some (.ref a)) ∧ Same F F' ∧ SR K F0 H0 F' H σ (Γ.set i (.pu (.lst ds))) ∧ Rep K F' (.lst ds) (.ref a) := by
  obtain ⟨o, e1, a, vs, rfl, h1, h2, h3, r⟩ := R.sl i _ e
  have hi : i < Γ.length := (List.getElem?_eq_some_iff.mp e).1
  have R1 : SR K F0 H0 F H σ (Γ.set i .no) := by
    have q := R.drop i (some (.ref a))
    have z : σ.set i (some (.ref a)) = σ := by
      obtain ⟨hl, e2⟩ := List.getElem?_eq_some_iff.mp e1
      rw [← e2]; simp
    rw [z] at q; exact q
  have ap1 : Apart σ (Γ.set i .no) a := fun j es q z => by
    by_cases hj : i = j
    · subst hj; rw [List.getElem?_set_self hi] at q; cases q
    · rw [List.getElem?_set_ne hj] at q
      exact hj (R.ap i j a ds es e q e1 z)
  obtain ⟨s1, _⟩ := frz_gr R.g h1 h2
  have rp : Rep K (L2.upd F a (.lst vs)) (.lst ds) (.ref a) := by
    unfold Rep
    exact ⟨a, vs, rfl, .inl (.inl upd_same), r.up s1⟩
  have R2 := (R1.frzA h1 h2 h3 ap1).set i rp
  have z : σ.set i (some (.ref a)) = σ := by
    obtain ⟨hl, e2⟩ := List.getElem?_eq_some_iff.mp e1
    rw [← e2]; simp
  rw [z, List.set_set] at R2
  exact ⟨a, _, e1, s1, R2, rp⟩
theorem SR.wr {i : Nat} {ds es : List D} {a : Addr} {us : List V} (R : SR K F0 H0 F H σ Γ) (e : Γ[i]? = some (.ow ds)) (e1 : σ[i]? = some (some (.ref a))) (r : Reps K F es us) :
    SR K F0 H0 F (L2.upd H a (.lst us)) σ (Γ.set i (.ow es)) := by
  obtain ⟨o, e2, b, vs, rfl, h1, h2, h3, r0⟩ := R.sl i _ e
  rw [e1] at e2; cases e2
  have hi : i < Γ.length := (List.getElem?_eq_some_iff.mp e).1
  refine ⟨⟨R.gr.f, fun b u q => ?_, fun b u q => ?_, fun b o q n => R.gr.n b o q n⟩, by simp [R.len], fun j s q => ?_, fun j k b es' fs q1 q2 q3 q4 => ?_⟩
  · rw [upd_ne (ne_of_none q h2)]; exact R.g b u q
  · rw [upd_ne (ne_of_none q h3)]; exact R.gr.h b u q
  · by_cases hj : i = j
    · subst hj
      rw [List.getElem?_set_self hi] at q
      cases q
      exact ⟨_, e1, a, us, rfl, upd_same, h2, h3, r⟩
    · rw [List.getElem?_set_ne hj] at q
      obtain ⟨o, p1, p2⟩ := R.sl j s q
      refine ⟨o, p1, ?_⟩
      cases s with
      | no => trivial
      | pu d => exact p2
      | ow fs =>
        obtain ⟨c, ws, rfl, k1, k2, k3, k4⟩ := p2
        refine ⟨c, ws, rfl, ?_, k2, k3, k4⟩
        have : c ≠ a := fun z => by subst z; exact hj (R.ap i j c ds fs e q e1 p1)
        rw [upd_ne this]; exact k1
  · have old : ∀ {k : Nat} {fs : List D}, (Γ.set i (Slot.ow es))[k]? = some (Slot.ow fs) → ∃ gs, Γ[k]? = some (Slot.ow gs) := by
      intro k fs q
      by_cases hk : i = k
      · subst hk; exact ⟨ds, e⟩
      · rw [List.getElem?_set_ne hk] at q; exact ⟨fs, q⟩
    obtain ⟨g1, p1⟩ := old q1
    obtain ⟨g2, p2⟩ := old q2
    exact R.ap j k b g1 g2 p1 p2 q3 q4
theorem SR.base (R : SR K F0 H0 F H σ Γ) : SR K F H0 F H σ Γ := ⟨⟨.refl _, R.g, R.gr.h, fun b o e n => by rw [e] at n; cases n⟩, R.len, R.sl, R.ap⟩
theorem Gr.unbase (g : Gr F0 H0 F H) (g' : Gr F H0 F' H') : Gr F0 H0 F' H' := by
  refine ⟨g.f.trans g'.f, g'.g, g'.h, fun b o e n => ?_⟩
  cases q : F b with
  | none => exact g'.n b o e q
  | some u => exact g.n b u q n
theorem SR.unbase {σ' : St} {Γ' : List Slot} (g : Gr F0 H0 F H) (R : SR K F H0 F' H' σ' Γ') : SR K F0 H0 F' H' σ' Γ' := ⟨g.unbase R.gr, R.len, R.sl, R.ap⟩
end
end L3

namespace L3
open PySem PySem.Spec PyProof.Rows L2

def Air (B : Heap) (l : List Env) (a : Addr) (cls : Value) (h : Heap) : Prop :=
  B.StaysIn h ∧ B.get? a = none ∧ h.FunFrames B l ∧
    ((∃ a0, h.TracedW B a cls a0) ∨ ∃ oe vs a0, h.get? a = some oe ∧ oe.cls = cls ∧ oe.data = .fields vs ∧ vs[1]? = some Value.none ∧ vs[0]? = some a0)

section
variable {M : Model} {A : Around} {E : Value → Shared → Prop} {s : Shared} {B : Heap} {env : Env} {outer : List Env} {L a : Addr} {cls : Value} {Q : Unit → Shared → Prop}
theorem air_leave (hfr : A.frames = some (env :: outer)) (hf : env.frame = some L) (x : Air B (env :: outer) a cls s.heap)
    (hQ : ∀ h', Air B outer a cls h' → s.heap.UpToSlots h' → Q () { s with heap := h' }) : wpAny M A (leaving env (.ref a)) Q E s := by
  obtain ⟨f1, f2, f3, f4 | ⟨oe, vs, a0, he, hc, hd, h1, h0⟩⟩ := x
  · obtain ⟨a0, f4⟩ := f4
    exact wpAny_leaves_onW hfr hf ⟨f1, f2, f3, f4⟩ fun h' fl up => hQ h' ⟨fl.1, fl.2.1, fl.2.2.1, .inl ⟨a0, fl.2.2.2⟩⟩ up
  · subst hc
    refine wpAny_leaving_firstW hfr f3 hf he f1 f2 hd h1 h0 fun h' lw => ?_
    obtain ⟨k1, ⟨_, _, k2⟩, k3, k4⟩ := lw
    exact hQ h' ⟨k1, f2, k2, .inl ⟨a0, k3⟩⟩ k4
theorem air_look (hfr : A.frames = some (env :: outer)) (hf : env.frame = some L) (x : Air B (env :: outer) a cls s.heap)
    (hQ : ∀ h' a0, Heap.HeldW B (env :: outer) a cls a0 L h' → s.heap.UpToSlots h' → Q () { s with heap := h' }) : wpAny M A (noteFrame (.ref a) env) Q E s := by
  obtain ⟨f1, f2, f3, f4 | ⟨oe, vs, a0, he, hc, hd, h1, h0⟩⟩ := x
  · obtain ⟨a0, f4⟩ := f4
    exact wpAny_looks_onW hfr hf ⟨f1, f2, f3, f4⟩ fun h' fl up => hQ h' a0 fl up
  · subst hc
    unfold noteFrame
    simp only [hf]
    refine wpAny_bind (wpAny_field he hd h1 ?_)
    rw [if_neg (by decide)]
    refine wpAny_entryW hfr f3 hf he f1 f2 hd (Array.getElem?_eq_some_iff.mp h1).1 h0 fun h' nw => ?_
    obtain ⟨k1, k2, k3, k4⟩ := nw
    exact hQ h' a0 ⟨k1, f2, k2, k3⟩ k4
end

def CX1 (P : Program) (w : World) : CXT := fun outer H s E e s' =>
  ∃ a C H' B, e = .ref a ∧ s'.os = s.os ∧ AllBare s'.gens ∧ Un (frs outer) [] H H' s.heap s'.heap ∧ HOk P w H' s'.heap ∧ Air B outer a C s'.heap ∧
    (∀ b o, s.heap.get? b = some o → b ∉ frs outer → ∃ o', B.get? b = some o') ∧ (∀ b u, H' b = some u → ∃ o', B.get? b = some o') ∧ E C none H'

theorem CX1.imp {P : Program} {w : World} {outer : List Env} {H : Hp} {s : Shared} {E E' : XK} {e : Value} {s' : Shared} (h : CX1 P w outer H s E e s') (k : ∀ C dx H', E C dx H' → E' C dx H') : CX1 P w outer H s E' e s' := by
  obtain ⟨a, C, H', B, h1, h2, h3, h4, h5, h6, h7, h8, h9⟩ := h
  exact ⟨a, C, H', B, h1, h2, h3, h4, h5, h6, h7, h8, k _ _ _ h9⟩

section
variable {X : Cx} {pins : List (Addr × Obj)} {σ : St} {H H' : Hp} {s s' : Shared} {B : Heap} {h' : Heap}
theorem hok_air (hok : HOk X.prog X.w H' s'.heap) (b1 : B.StaysIn s'.heap) (b2 : B.StaysIn h') (trk : ∀ b u, H' b = some u → ∃ o', B.get? b = some o') : HOk X.prog X.w H' h' := fun b u e =>
  (hok b u e).stay (fun c v hc q => by
    have : ∃ o', B.get? c = some o' := by
      rcases hc with rfl | hc
      · exact trk _ _ e
      · exact trk _ _ hc
    obtain ⟨o', e'⟩ := this
    have z := b1 c o' e'
    rw [q] at z; cases z
    exact b2 c _ e') (fun _ q => q) fun _ _ q => q
theorem un_air (I : Inv X pins σ H s) (hex : X.ex = []) (os : s'.os = s.os) (bare : AllBare s'.gens) (un : Un (frs X.stack) [] H H' s.heap s'.heap) (hok : HOk X.prog X.w H' s'.heap) (b1 : B.StaysIn s'.heap) (b2 : B.StaysIn h')
    (inB : ∀ b o, s.heap.get? b = some o → b ∉ frs X.stack → ∃ o', B.get? b = some o') (up : s'.heap.UpToSlots h') :
    Un X.fs [] X.H₀ H' X.s₀.heap h' ∧ ∀ b o, X.s₀.heap.get? b = some o → b ∉ X.fs → ∃ o', B.get? b = some o' := by
  have I' : Inv X pins σ H' s' := I.call' os un hok bare (fun b z => absurd z (by simp))
  have hb := I'.base
  rw [hex] at hb
  have hb0 := I.base
  rw [hex] at hb0
  have in0 : ∀ b o, X.s₀.heap.get? b = some o → b ∉ X.fs → ∃ o', B.get? b = some o' := fun b o e n => by
    obtain ⟨o1, e1⟩ := hb0.there b o e (by simp)
    refine inB b o1 e1 fun z => ?_
    rcases List.mem_cons.mp (I.stkSub b z) with z | z
    · exact absurd (Nat.lt_of_lt_of_le (Heap.lt_size e) I.ok.above) (by rw [z]; exact Nat.lt_irrefl _)
    · exact n z
  refine ⟨⟨fun b o e n hf hx => ?_, fun b o e n hf hx => ?_, fun b o e n hx => hb.free b o e n hx, fun b o e hx => ?_, hb.tups, hb.frzs, hb.tbls⟩, in0⟩
  · have e1 := hb.keep b o e n hf (by simp)
    obtain ⟨o', e'⟩ := in0 b o e hf
    have z := b1 b o' e'
    rw [e1] at z; cases z
    exact b2 b _ e'
  · obtain ⟨sl, e1⟩ := hb.slot b o e n hf (by simp)
    obtain ⟨_, o2, e2, nf⟩ := I.ok.funs.mem hf
    rw [e] at e2; cases e2
    obtain ⟨sl', e3⟩ := up b _ e1 nf
    exact ⟨sl', e3⟩
  · by_cases hf : b ∈ X.fs
    · obtain ⟨sl, e1⟩ := hb.slot b o e (I.ok.frf b hf) hf (by simp)
      obtain ⟨_, o2, e2, nf⟩ := I.ok.funs.mem hf
      rw [e] at e2; cases e2
      obtain ⟨sl', e3⟩ := up b _ e1 nf
      exact ⟨_, e3⟩
    · obtain ⟨o', e'⟩ := in0 b o e hf
      exact ⟨o', b2 b o' e'⟩
theorem pass_leave {E : XK} {e : Value} {Eb : Value → Shared → Prop} (I : Inv X pins σ H s) (hex : X.ex = []) (hst : X.stack = X.env :: X.outer) (hfr : X.env.frame = some X.env.locals)
    (h : CX1 X.prog X.w X.stack H s E e s') : wpAny (model X.prog X.w) X.A (leaving X.env e) (fun _ s'' => CX1 X.prog X.w X.outer X.H₀ X.s₀ E e s'') Eb s' := by
  obtain ⟨a, C, H', B, rfl, os, bare, un, hok, air, inB, trk, hE⟩ := h
  refine air_leave (by rw [I.ok.frames, hst]) hfr (by rw [← hst]; exact air) fun h' air' up => ?_
  obtain ⟨un', in0⟩ := un_air I hex os bare un hok air.1 air'.1 inB up
  exact ⟨a, C, H', B, rfl, os.trans I.os, bare, un', hok_air hok air.1 air'.1 trk, air', in0, trk, hE⟩
theorem Inv.landed (I : Inv X pins σ H s) (hex : X.ex = []) (os : s'.os = s.os) (bare : AllBare s'.gens) (un : Un (frs X.stack) [] H H' s.heap s'.heap) (hok : HOk X.prog X.w H' s'.heap) (b1 : B.StaysIn s'.heap) (b2 : B.StaysIn h')
    (inB : ∀ b o, s.heap.get? b = some o → b ∉ frs X.stack → ∃ o', B.get? b = some o') (trk : ∀ b u, H' b = some u → ∃ o', B.get? b = some o') (up : s'.heap.UpToSlots h') {t' : Nat} : Inv X pins σ H' { s' with heap := h', toks := t' } := by
  have I' : Inv X pins σ H' s' := I.call' os un hok bare (fun b z => absurd z (by simp))
  obtain ⟨un', in0⟩ := un_air I hex os bare un hok b1 b2 inB up
  have cl : ∀ {c v}, s'.heap.IsCell c v → h'.IsCell c v := fun {c v} ⟨o, ho, hd⟩ => by
    obtain ⟨sl, e⟩ := up c o ho (fun vs z => by rw [hd] at z; cases z)
    exact ⟨_, e, hd⟩
  refine ⟨I.ok, I'.os, bare, by rw [hex]; exact un', ?_, fun x c e => ?_, I'.free, I'.freeC, fun p hp => ?_, hok_air hok b1 b2 trk, I.len⟩
  · obtain ⟨m, hn, hl⟩ := I'.loc
    refine ⟨m, up.ns hn, fun i x v e1 e2 e3 => ?_⟩
    obtain ⟨u, r, l⟩ := hl i x v e1 e2 e3
    refine ⟨u, r, ?_⟩
    rcases l with l | ⟨k, c, e, z⟩
    · exact .inl l
    · exact .inr ⟨k, c, e, cl z⟩
  · obtain ⟨v, z⟩ := I'.cell x c e
    exact ⟨v, cl z⟩
  · obtain ⟨e, n, ne, nf, d⟩ := I.pin p hp
    obtain ⟨e', n', _, _, _⟩ := I'.pin p hp
    refine ⟨?_, n', ne, nf, d⟩
    obtain ⟨o', q⟩ := inB p.1 p.2 e fun z => by
      rcases List.mem_cons.mp (I.stkSub p.1 z) with z | z
      · exact ne z
      · exact nf z
    have z := b1 p.1 o' q
    rw [e'] at z; cases z
    exact b2 p.1 _ q
end

def ExcC (K : PySem.W.Frag) (C : Addr) : Prop := PySem.W.excIn K C [.type "ValueError", .type "Exception", .type "BaseException", .type "object"] "ValueError.__new__" = true

theorem excC_obj {K : PySem.W.Frag} {h : Heap} {C : Addr} (X : K.In h) (q : ExcC K C) :
    ∃ bm N nm qn bs hdct sn sub ab col dd k0 k1 k2 k3 k5 mN, h.get? C = some (excClassObj nm qn C N bs bm hdct sn sub ab col dd k0 k1 k2 k3 k5 "ValueError.__new__") ∧ h.Ns N mN ∧ mN "__init__" = none ∧
      OwnTail h [.type "ValueError", .type "Exception", .type "BaseException", .type "object"] bm := by
  unfold ExcC PySem.W.excIn at q
  split at q
  · rename_i dd cd sl ho
    split at q
    · rename_i C' bm k0 k1 k2 k3 n k5 hm hs
      simp only [Bool.and_eq_true, beq_iff_eq, Bool.not_eq_true'] at q
      obtain ⟨⟨⟨⟨⟨rfl, rfl⟩, hdel⟩, ht⟩, hok⟩, hni⟩ := q
      obtain ⟨nm, bs, mro, ns, qn, hd, sn, sub, ab, col, del⟩ := cd
      dsimp only at hm hdel hok hni
      subst hm hdel
      obtain rfl : sl = #[k0, k1, k2, k3, some (.builtin "ValueError.__new__"), k5] := by
        cases sl
        simp only at hs
        rw [hs]
      exact ⟨bm, ns, nm, qn, bs, hd, sn, sub, ab, col, dd, k0, k1, k2, k3, k5, _, X _ _ ho, .of_isNs (PySem.W.isNs_of_in X hok), PySem.W.nsMap_none_of_in X hok hni, PySem.W.tail_of_in X ht⟩
    · cases q
  · cases q

section
variable {X : Cx} {pins : List (Addr × Obj)} {σ : St} {H : Hp} {s : Shared}
theorem air_new {h h1 : Heap} {a C : Addr} {vs : List Value} {l : List Env} {base : Heap} (hl : h.FunFrames base l) (hm : Heap.MadeExcOf h h1 a (.ref C) vs) : Air (PySem.W.hideAll h (frs l)) l a (.ref C) h1 := by
  obtain ⟨t, he, _, _⟩ := hm.there
  refine ⟨fun b o q => hm.keeps b o (PySem.W.of_hideAll _ q), ?_, ?_, .inr ⟨_, _, _, he, rfl, rfl, rfl, rfl⟩⟩
  · cases q : (PySem.W.hideAll h (frs l)).get? a with
    | none => rfl
    | some o =>
      have z := PySem.W.of_hideAll _ q
      rw [hm.new] at z; cases z
  · have k := PySem.W.funFrames_hide (as := frs l) hl fun env he a ha => List.mem_filterMap.mpr ⟨env, he, ha⟩
    exact k.of_keeps fun b o e _ => ⟨o, hm.keeps b o e, rfl⟩
theorem raise_ok {x : Str} {C : Addr} {np cpos pos : Pos} {e : Expr} {es : List Expr} {t : TA} {Q : Flow → Shared → Prop} {E : XK} (hg : Gl X x) (hm : X.mg x = some (.ref C)) (hC : ExcC X.K C) (ha : PA X (e :: es) t) (hh : X.calm = true)
    (I : Inv X pins σ H s) (h : t σ H fun vs H1 => vs.length ≤ sizeLine ∧ E (.ref C) none H1)
    (px : ∀ H1 s1 e s', Inv X pins σ H1 s1 → CX1 X.prog X.w X.stack H1 s1 (fun C' dx H' => C' = .ref C ∧ dx = none ∧ H' = H1 ∧ E (.ref C) none H1) e s' → X.xe e s')
    (hd : (x == ("__debug__" : Str)) = false := by decide) (he : starEach (e :: es) X.env = (false, eval e X.env) :: starEach es X.env := by rfl) (hpl : (backTo cpos (starEach es X.env)).any (·.1) = false := by rfl) :
    wpAny (model X.prog X.w) X.A (exec (.Raise (some (.Call (.Name x np) (e :: es) [] cpos)) none pos) X.env) Q X.xe s := by
  obtain ⟨bm, N, nm, qn, bs, hdct, sn, sub, ab, col, dd, k0, k1, k2, k3, k5, mN, e1, e2, e3, e4⟩ := excC_obj I.mod.kin hC
  refine wpAny_Raise_call_subT (C := C) (nm := nm) (q := qn) (N := N) (bs := bs) (bm := bm) (hdct := hdct) (sn := sn) (sub := sub) (ab := ab) (col := col) (dd := dd) (k0 := k0) (k1 := k1) (k2 := k2) (k3 := k3) (k5 := k5)
    PySem.F.excBase_ValueError (mN := mN) (e4.hasType PySem.F.excBase_ValueError.hasBase) (I.ok.hd hh) ?_ e3 (ld_glob I hg hm ⟨rfl, ?_⟩ hd)
  · rw [he]
    show (false || (backTo cpos (starEach es X.env)).any (·.1)) = false
    rw [hpl]; rfl
  · have key := ha cpos pins s σ H _ I h
    rw [he] at key ⊢
    refine Calls.evalArgs_plain (wpAny_mono key (fun us s2 ⟨vs, H1, I1, r, z, q⟩ => ⟨rfl, by rw [← r.length]; exact z, I1.bk _ _ e1, e2.keeps I1.bk, e4.keeps I1.bk, fun h' a hm => ?_⟩) fun _ _ y => y)
    refine px H1 s2 _ _ I1 ⟨a, .ref C, H1, PySem.W.hideAll s2.heap (frs X.stack), rfl, rfl, I1.bare, Un.kept hm.keeps, I1.hok.kept hm.keeps, air_new I1.stack hm, fun b o e n => ⟨o, PySem.W.hideAll_get _ e n⟩, fun b u e => ?_, rfl, rfl, rfl, q⟩
    obtain ⟨o, eo⟩ : ∃ o, s2.heap.get? b = some o := by
      have k := I1.hok b u e
      cases u with
      | lst xs => obtain ⟨_, _, _, _, e⟩ := k; exact ⟨_, e⟩
      | tup xs => obtain ⟨_, _, _, o, e, _⟩ := k; exact ⟨_, e⟩
      | dK kvs => obtain ⟨_, _, _, _, o, _, _, e, _⟩ := k; exact ⟨_, e⟩
      | dT kvs => obtain ⟨_, _, _, _, o, _, _, e, _⟩ := k; exact ⟨_, e⟩
      | set S n => obtain ⟨o, _, _, _, e, _⟩ := k; exact ⟨_, e⟩
      | ins C dx fs => obtain ⟨_, _, _, e, _⟩ := k; exact ⟨_, e⟩
      | own y => exact k
      | xd fs => obtain ⟨_, ⟨_, _, _, e, _⟩, _⟩ := k; exact ⟨_, e⟩
      | rng lo hi => obtain ⟨_, _, _, e⟩ := k; exact ⟨_, e⟩
      | frz ob u => obtain ⟨e, _⟩ := k; exact ⟨_, e⟩
      | tbl ps => exact ⟨_, (show s2.heap.get? b = some _ from k)⟩
      | met f y => exact ⟨_, (show s2.heap.get? b = some _ from k)⟩
      | ext φ => obtain ⟨_, e, _⟩ := k; exact e
    refine ⟨o, PySem.W.hideAll_get _ eo fun z => ?_⟩
    have := I1.stkFree b z
    rw [e] at this; cases this
end
end L3

namespace L3
open PySem PySem.Spec PyProof.Rows L2

abbrev G2 := List Slot
abbrev XW := G2 → Value → Prop
abbrev TE2 := G2 → (D → G2 → Prop) → XW → Prop
abbrev TF2 := G2 → (List D → G2 → Prop) → XW → Prop
abbrev TT2 := G2 → (Bool → G2 → Prop) → XW → Prop
structure End2 where
  nx : G2 → Prop
  rt : D → Prop
  bk : G2 → Prop := fun _ => False
  ct : G2 → Prop := fun _ => False
  rf : D → Prop := fun _ => False
abbrev TS2 := End2 → G2 → XW → Prop

def lessL (F0 F : Hp) : Hp := fun b => match F0 b with | some (.lst _) => none | _ => F b
theorem lessL_sub {F0 F : Hp} : Same (lessL F0 F) F := fun b u e => by
  unfold lessL at e
  split at e
  · cases e
  · exact e
theorem lessL_not {F0 F : Hp} {b : Addr} (h : ∀ vs, F0 b ≠ some (.lst vs)) : lessL F0 F b = F b := by
  unfold lessL
  split
  · rename_i q; exact absurd q (h _)
  · rfl
theorem lessL_of {F0 F : Hp} {b : Addr} {u : HO} (e : lessL F0 F b = some u) : ∀ vs, F0 b ≠ some (.lst vs) := fun vs q => by
  unfold lessL at e
  rw [q] at e
  cases e
theorem lessL_anti {F0 F1 F : Hp} (s : Same F0 F1) : Same (lessL F1 F) (lessL F0 F) := fun b u e => by
  rw [lessL_not fun vs q => lessL_of e vs (s _ _ q)]
  exact lessL_sub _ _ e
theorem lessL_mono {F0 F F' : Hp} (s : Same F F') : Same (lessL F0 F) (lessL F0 F') := fun b u e => by
  rw [lessL_not (lessL_of e)]
  exact s _ _ (lessL_sub _ _ e)
theorem lessL_cut {F0 F : Hp} (s : Same F0 F) : ∀ b u, F b = some u → (∃ vs, u = .lst vs) ∨ lessL F0 F b = some u := fun b u e => by
  by_cases h : ∃ vs, F0 b = some (.lst vs)
  · obtain ⟨vs, q⟩ := h
    have := s _ _ q
    rw [e] at this; cases this
    exact .inl ⟨vs, rfl⟩
  · exact .inr (by rw [lessL_not fun vs q => h ⟨vs, q⟩]; exact e)

section
variable (K : PySem.W.Frag) (F0 H0 : Hp)
def upE (t : TE2) (E : XW) : TE := fun σ H Q => ∃ F Γ P, SR K F0 H0 F H σ Γ ∧ t Γ P E ∧ ∀ d Γ' F' H' v, SR K F0 H0 F' H' σ Γ' → Same F F' → Rep K F' d v → P d Γ' → Q v H'
def upT (t : TT2) (E : XW) : TT := fun σ H Q => ∃ F Γ P, SR K F0 H0 F H σ Γ ∧ t Γ P E ∧ ∀ b Γ' F' H', SR K F0 H0 F' H' σ Γ' → Same F F' → P b Γ' → Q b H'
def upA (t : TF2) (E : XW) : TA := fun σ H Q => ∃ F Γ P, SR K F0 H0 F H σ Γ ∧ t Γ P E ∧ ∀ ds Γ' F' H' vs, SR K F0 H0 F' H' σ Γ' → Same F F' → Reps K F' ds vs → P ds Γ' → Q vs H'
def upF (t : TF2) (E : XW) : TE := fun σ H Q => ∃ F Γ P, SR K F0 H0 F H σ Γ ∧ t Γ P E ∧ ∀ ds Γ' F' H' a vs, SR K F0 H0 F' H' σ Γ' → Same F F' → H' a = some (.lst vs) → F' a = none → H0 a = none → Reps K F' ds vs → Apart σ Γ' a → P ds Γ' → Q (.ref a) H'
structure EndR (F : Hp) (D2 : End2) (D : Ends) : Prop where
  nx : ∀ Γ F' H σ, SR K F0 H0 F' H σ Γ → Same F F' → D2.nx Γ → D.nx σ H
  bk : ∀ Γ F' H σ, SR K F0 H0 F' H σ Γ → Same F F' → D2.bk Γ → D.bk σ H
  ct : ∀ Γ F' H σ, SR K F0 H0 F' H σ Γ → Same F F' → D2.ct Γ → D.ct σ H
  rt : ∀ d v F' H, Gr F0 H0 F' H → Rep K F' d v → D2.rt d → D.rt v H
  rf : ∀ d v F' H, Gr F0 H0 F' H → Rep K (lessL F0 F') d v → D2.rf d → D.rt v H
def upS (t : TS2) (E : XW) : TS := fun D σ H => ∃ F Γ D2, SR K F0 H0 F H σ Γ ∧ t D2 Γ E ∧ EndR K F0 H0 F D2 D
end
theorem EndR.mono {K : PySem.W.Frag} {F0 H0 F F' : Hp} {D2 : End2} {D : Ends} (k : EndR K F0 H0 F D2 D) (s : Same F F') : EndR K F0 H0 F' D2 D :=
  ⟨fun Γ F1 H σ R s1 h => k.nx Γ F1 H σ R (s.trans s1) h, fun Γ F1 H σ R s1 h => k.bk Γ F1 H σ R (s.trans s1) h, fun Γ F1 H σ R s1 h => k.ct Γ F1 H σ R (s.trans s1) h, k.rt, k.rf⟩

structure Wsh where
  xe : Value → Shared → Prop
  pn : List (Addr × Obj)
abbrev _root_.L2.Cx.wsh (X : Cx) (z : Wsh) : Cx := { X with xe := z.xe, pn := z.pn }
structure Ctx (X : Cx) (F0 H0 : Hp) (E : XW) : Prop where
  px : ∀ pins σ Γ F H s e s', Inv X pins σ H s → SR X.K F0 H0 F H σ Γ → CX1 X.prog X.w X.stack H s (fun C dx H' => E Γ C ∧ dx = none ∧ Same H H') e s' → X.xe e s'
  po : PassesOwn (model X.prog X.w) X.A X.env X.xe

def QE (X : Cx) (F0 H0 : Hp) (e : Expr) (t : TE2) : Prop := ∀ z E, Ctx (X.wsh z) F0 H0 E → PE (X.wsh z) e (upE X.K F0 H0 t E)
def QF (X : Cx) (F0 H0 : Hp) (e : Expr) (t : TF2) : Prop := ∀ z E, Ctx (X.wsh z) F0 H0 E → PE (X.wsh z) e (upF X.K F0 H0 t E)
def QT (X : Cx) (F0 H0 : Hp) (e : Expr) (t : TT2) : Prop := ∀ z E, Ctx (X.wsh z) F0 H0 E → PT (X.wsh z) e (upT X.K F0 H0 t E)
def QW (X : Cx) (F0 H0 : Hp) (e : Expr) (t : TT2) : Prop := ∀ z E, Ctx (X.wsh z) F0 H0 E → PW (X.wsh z) e (upT X.K F0 H0 t E)
def QA (X : Cx) (F0 H0 : Hp) (es : List Expr) (t : TF2) : Prop := ∀ z E, Ctx (X.wsh z) F0 H0 E → PA (X.wsh z) es (upA X.K F0 H0 t E)
def QS (X : Cx) (F0 H0 : Hp) (st : Stmt) (t : TS2) : Prop := ∀ z E, Ctx (X.wsh z) F0 H0 E → PS (X.wsh z) st (upS X.K F0 H0 t E)
def QSs (X : Cx) (F0 H0 : Hp) (st : List Stmt) (t : TS2) : Prop := ∀ z E, Ctx (X.wsh z) F0 H0 E → PSs (X.wsh z) st (upS X.K F0 H0 t E)

section
variable {X : Cx} {e : Expr} {es : List Expr} {st : Stmt} {sts : List Stmt}
theorem peC {t t' : TE} (h : PE X e t) (hi : ∀ σ H Q, t' σ H Q → t σ H Q) : PE X e t' := fun pins s σ H Q I q => h pins s σ H Q I (hi _ _ _ q)
theorem ptC {t t' : TT} (h : PT X e t) (hi : ∀ σ H Q, t' σ H Q → t σ H Q) : PT X e t' := fun pins s σ H Q I q => h pins s σ H Q I (hi _ _ _ q)
theorem paC {t t' : TA} (h : PA X es t) (hi : ∀ σ H Q, t' σ H Q → t σ H Q) : PA X es t' := fun p pins s σ H Q I q => h p pins s σ H Q I (hi _ _ _ q)
theorem psC {t t' : TS} (h : PS X st t) (hi : ∀ D σ H, t' D σ H → t D σ H) : PS X st t' := fun pins s σ H D I q => h pins s σ H D I (hi _ _ _ q)
theorem pssC {t t' : TS} (h : PSs X sts t) (hi : ∀ D σ H, t' D σ H → t D σ H) : PSs X sts t' := fun pins s σ H D I q => h pins s σ H D I (hi _ _ _ q)
end

section
variable {X : Cx} {F0 H0 : Hp} {a b c e : Expr} {es : List Expr} {pos : Pos} {ta tb tc te : TE2}

def cC (d : D) : TE2 := fun Γ P _ => P d Γ
theorem qe_const {d : D} {v : V} (h : ∀ z, PE (X.wsh z) e (tC v)) (r : ∀ F, Rep X.K F d v) : QE X F0 H0 e (cC d) := fun z E cx =>
  peC (h z) fun σ H Q ⟨F, Γ, P, R, h, k⟩ => k _ _ _ _ _ R (.refl _) (r F) h
theorem qe_int {i j pos} : QE X F0 H0 (.Constant (.int i) j pos) (cC (.int i)) := qe_const (fun _ => pe_int) fun _ => by unfold Rep; rfl
theorem qe_bl {i j pos} : QE X F0 H0 (.Constant (.bool i) j pos) (cC (.bl i)) := qe_const (fun _ => pe_bl) fun _ => by unfold Rep; rfl
theorem qe_str {x j pos} : QE X F0 H0 (.Constant (.str x) j pos) (cC (.str x)) := qe_const (fun _ => pe_str) fun _ => by unfold Rep; rfl
def cV (i : Nat) : TE2 := fun Γ P _ => match Γ[i]? with
  | some (.pu d) => P d Γ
  | some (.ow ds) => P (.lst ds) (Γ.set i (.pu (.lst ds)))
  | _ => False
theorem qe_var {i : Nat} {x : Str} (hN : X.N[i]? = some x) (hv : Vis X.env.scope x) (hd : (x == ("__debug__" : Str)) = false := by decide) (hcd : (x == ("__classdict__" : Str)) = false := by decide) : QE X F0 H0 (.Name x pos) (cV i) := fun z E cx =>
  peC (pe_var (X := X.wsh z) (i := i) hN hv hd hcd) fun σ H Q ⟨F, Γ, P, R, h, k⟩ => by
    unfold cV at h
    split at h
    · rename_i d e
      obtain ⟨o, e1, v, rfl, r⟩ := R.sl i _ e
      exact ⟨v, e1, k d Γ F H v R (.refl _) r h⟩
    · rename_i ds e
      obtain ⟨a, F', e1, s1, R', r⟩ := R.frz e
      exact ⟨.ref a, e1, k _ _ F' H _ R' s1 r h⟩
    · exact h.elim

def rUp (K : PySem.W.Frag) (g : D → D → (D → Prop) → Prop) : R2 := fun x y H Q => ∃ F d1 d2 P, Same F H ∧ Rep K F d1 x ∧ Rep K F d2 y ∧ g d1 d2 P ∧ ∀ d z F' H', Gr F H F' H' → Rep K F' d z → P d → Q z H'
def cB (g : D → D → (D → Prop) → Prop) (ta tb : TE2) : TE2 := fun Γ P E => ta Γ (fun d1 Γ1 => tb Γ1 (fun d2 Γ2 => g d1 d2 fun d => P d Γ2) E) E
theorem cB_up {K : PySem.W.Frag} {g : D → D → (D → Prop) → Prop} {E : XW} {σ : St} {H : Hp} {Q : VK} (h : upE K F0 H0 (cB g ta tb) E σ H Q) : tOp (rUp K g) (upE K F0 H0 ta E) (upE K F0 H0 tb E) σ H Q := by
  obtain ⟨F, Γ, P, R, h, k⟩ := h
  refine ⟨F, Γ, _, R, h, fun d1 Γ1 F1 H1 v1 R1 s1 r1 h1 => ⟨F1, Γ1, _, R1, h1, fun d2 Γ2 F2 H2 v2 R2 s2 r2 h2 => ⟨F2, d1, d2, _, R2.g, r1.up s2, r2, h2, fun d z F' H' gr rz hp => ?_⟩⟩⟩
  exact k d Γ2 F' H' z (R2.grow gr) (s1.trans (s2.trans gr.f)) rz hp
theorem qe_bin {op : Operator} {g : D → D → (D → Prop) → Prop} (ho : ∀ z, OpR (X.wsh z) (binaryOp op) (rUp X.K g)) (ha : QE X F0 H0 a ta) (hb : QE X F0 H0 b tb) : QE X F0 H0 (.BinOp a op b pos) (cB g ta tb) := fun z E cx =>
  peC (pe_op (ho z) (ha z E cx) (hb z E cx)) fun _ _ _ h => cB_up h
theorem qe_cmp {op : CmpOp} {g : D → D → (D → Prop) → Prop} (ho : ∀ z, OpR (X.wsh z) (compareOp op) (rUp X.K g)) (ha : QE X F0 H0 a ta) (hb : QE X F0 H0 b tb) (hm : behindInMarks op b = false) : QE X F0 H0 (.Compare a [op] [b] pos) (cB g ta tb) := fun z E cx =>
  peC (pe_cmpR (ho z) (ha z E cx) (hb z E cx) hm) fun _ _ _ h => cB_up h
def cT (t : TE2) : TT2 := fun Γ P E => t Γ (fun d Γ' => match d with | .bl c => P c Γ' | _ => False) E
theorem cT_up {K : PySem.W.Frag} {E : XW} {σ : St} {H : Hp} {Q : Bool → Hp → Prop} (h : upT K F0 H0 (cT te) E σ H Q) : upE K F0 H0 te E σ H fun x H' => ∃ c, x = .bl c ∧ Q c H' := by
  obtain ⟨F, Γ, P, R, h, k⟩ := h
  refine ⟨F, Γ, _, R, h, fun d Γ' F' H' v R' s' r q => ?_⟩
  cases d with
  | bl c =>
    unfold Rep at r
    exact ⟨c, r, k c Γ' F' H' R' s' q⟩
  | _ => exact False.elim q
theorem qt_cmp {op : CmpOp} {g : D → D → (D → Prop) → Prop} (ho : ∀ z, OpR (X.wsh z) (compareOp op) (rUp X.K g)) (ha : QE X F0 H0 a ta) (hb : QE X F0 H0 b tb) (hm : behindInMarks op b = false) : QT X F0 H0 (.Compare a [op] [b] pos) (cT (cB g ta tb)) := fun z E cx =>
  ptC (pt_cmpR (ho z) (ha z E cx) (hb z E cx) hm) fun σ H Q h => cB_up (cT_up h)
theorem qt_val (h : QE X F0 H0 e te) (he : ∀ whole, isTrue e X.env whole = (do let v ← whole; standAt e.pos; holding [v] (truthy v)) := by intro _; rfl) : QT X F0 H0 e (cT te) := fun z E cx =>
  ptC (pt_val (X := X.wsh z) (h z E cx) he) fun _ _ _ h => cT_up h

def cAnd (t u : TT2) : TT2 := fun Γ P E => t Γ (fun c Γ' => if c = true then u Γ' P E else P false Γ') E
def cOr (t u : TT2) : TT2 := fun Γ P E => t Γ (fun c Γ' => if c = true then P true Γ' else u Γ' P E) E
def cNot (t : TT2) : TT2 := fun Γ P E => t Γ (fun c Γ' => P (!c) Γ') E
variable {rest : List Expr} {tA tB' : TT2}
theorem qt_not (ha : QT X F0 H0 a tA) : QT X F0 H0 (.UnaryOp .Not a pos) (cNot tA) := fun z E cx =>
  ptC (pt_not (ha z E cx)) fun σ H Q ⟨F, Γ, P, R, h, k⟩ => ⟨F, Γ, _, R, h, fun c Γ1 F1 H1 R1 s1 q => k _ _ _ _ R1 s1 q⟩
def cAndV (ta tb : TE2) : TE2 := fun Γ P E => ta Γ (fun d Γ' => match d with | .bl true => tb Γ' P E | .bl false => P (.bl false) Γ' | _ => False) E
def cOrV (ta tb : TE2) : TE2 := fun Γ P E => ta Γ (fun d Γ' => match d with | .bl false => tb Γ' P E | .bl true => P (.bl true) Γ' | _ => False) E
def cNotV (ta : TE2) : TE2 := fun Γ P E => ta Γ (fun d Γ' => match d with | .bl c => P (.bl (!c)) Γ' | _ => False) E
theorem qe_one {op} (h : QE X F0 H0 a ta) : QE X F0 H0 (.BoolOp op [a] pos) ta := fun z E cx => pe_one (h z E cx)
theorem qe_and (ha : QE X F0 H0 a ta) (hb : QE X F0 H0 (.BoolOp .And (b :: rest) pos) tb) : QE X F0 H0 (.BoolOp .And (a :: b :: rest) pos) (cAndV ta tb) := fun z E cx =>
  peC (pe_and (ha z E cx) (hb z E cx)) fun σ H Q ⟨F, Γ, P, R, h, k⟩ => ⟨F, Γ, _, R, h, fun d Γ1 F1 H1 v R1 s1 r q => by
    cases d with
    | bl c =>
      unfold Rep at r
      refine ⟨c, r, ?_⟩
      cases c with
      | true => rw [if_pos rfl]; exact ⟨F1, Γ1, P, R1, q, fun d Γ2 F2 H2 v R2 s2 r p => k d Γ2 F2 H2 v R2 (s1.trans s2) r p⟩
      | false => rw [if_neg Bool.false_ne_true]; exact k _ _ _ _ _ R1 s1 (by unfold Rep; rfl) q
    | _ => exact False.elim q⟩
theorem qe_not (ha : QE X F0 H0 a ta) : QE X F0 H0 (.UnaryOp .Not a pos) (cNotV ta) := fun z E cx =>
  peC (pe_not (ha z E cx)) fun σ H Q ⟨F, Γ, P, R, h, k⟩ => ⟨F, Γ, _, R, h, fun d Γ1 F1 H1 v R1 s1 r q => by
    cases d with
    | bl c =>
      unfold Rep at r
      exact ⟨c, r, k _ _ _ _ _ R1 s1 (by unfold Rep; rfl) q⟩
    | _ => exact False.elim q⟩
def cIf (t : TT2) (ta tb : TE2) : TE2 := fun Γ P E => t Γ (fun c Γ' => if c = true then ta Γ' P E else tb Γ' P E) E
theorem qe_if (hc : QT X F0 H0 c tA) (ha : QE X F0 H0 a ta) (hb : QE X F0 H0 b tb) : QE X F0 H0 (.IfExp c a b pos) (cIf tA ta tb) := fun z E cx =>
  peC (pe_ifExp (hc z E cx) (ha z E cx) (hb z E cx)) fun σ H Q ⟨F, Γ, P, R, h, k⟩ => ⟨F, Γ, _, R, h, fun c Γ1 F1 H1 R1 s1 q => by
    cases c with
    | true => rw [if_pos rfl] at q ⊢; exact ⟨F1, Γ1, P, R1, q, fun d Γ2 F2 H2 v R2 s2 r p => k d Γ2 F2 H2 v R2 (s1.trans s2) r p⟩
    | false => rw [if_neg Bool.false_ne_true] at q ⊢; exact ⟨F1, Γ1, P, R1, q, fun d Γ2 F2 H2 v R2 s2 r p => k d Γ2 F2 H2 v R2 (s1.trans s2) r p⟩⟩

def cNil : TF2 := fun Γ P _ => P [] Γ
def cCons (t : TE2) (u : TF2) : TF2 := fun Γ P E => t Γ (fun d Γ1 => u Γ1 (fun ds Γ2 => P (d :: ds) Γ2) E) E
theorem qa_nil : QA X F0 H0 [] cNil := fun z E cx => paC pa_nil fun σ H Q ⟨F, Γ, P, R, h, k⟩ => k _ _ _ _ _ R (.refl _) (by unfold Reps; rfl) h
theorem qa_cons {tr : TF2} (ha : QE X F0 H0 e te) (hr : QA X F0 H0 es tr) (hs : starEach (e :: es) X.env = (false, eval e X.env) :: starEach es X.env := by rfl) : QA X F0 H0 (e :: es) (cCons te tr) := fun z E cx =>
  paC (pa_cons (X := X.wsh z) (ha z E cx) (hr z E cx) hs) fun σ H Q ⟨F, Γ, P, R, h, k⟩ =>
    ⟨F, Γ, _, R, h, fun d Γ1 F1 H1 v1 R1 s1 r1 h1 => ⟨F1, Γ1, _, R1, h1, fun ds Γ2 F2 H2 vs R2 s2 r2 h2 => k _ _ _ _ _ R2 (s1.trans s2) (reps_cons (r1.up s2) r2) h2⟩⟩
def cTup (t : TF2) : TE2 := fun Γ P E => t Γ (fun ds Γ1 => ds.length ≤ sizeLine ∧ P (.tup ds) Γ1) E
theorem qe_tup {x1} {t : TF2} (h : QA X F0 H0 es t) : QE X F0 H0 (.Tuple es x1 pos) (cTup t) := fun z E cx =>
  peC (pe_tup (h z E cx)) fun σ H Q ⟨F, Γ, P, R, h, k⟩ => ⟨F, Γ, _, R, h, fun ds Γ1 F1 H1 vs R1 s1 r1 h1 => ⟨by rw [← reps_len r1]; exact h1.1, fun p hp => by
    have gr := Gr.laid (o := HO.tup vs) R1.g hp
    refine k _ _ _ _ _ (R1.grow gr) (s1.trans gr.f) ?_ h1.2
    unfold Rep
    exact ⟨p, vs, rfl, .inl (.inl upd_same), r1.up gr.f⟩⟩⟩
def fLst (t : TF2) : TF2 := fun Γ P E => t Γ (fun ds Γ1 => ds.length ≤ sizeLine ∧ P ds Γ1) E
theorem new_lst {K : PySem.W.Frag} {F H : Hp} {σ : St} {Γ : G2} {p : Addr} {vs : List V} {ds : List D} (R : SR K F0 H0 F H σ Γ) (hp : H p = none) (r : Reps K F ds vs) :
    SR K F0 H0 F (L2.upd H p (.lst vs)) σ Γ ∧ (L2.upd H p (.lst vs)) p = some (.lst vs) ∧ F p = none ∧ H0 p = none ∧ Apart σ Γ p := by
  refine ⟨?_, upd_same, R.g.free hp, R.gr.h.free hp, R.apart hp⟩
  refine R.grow ⟨.refl _, fun b u e => ?_, fun b u e => ?_, fun b o e n => by rw [e] at n; cases n⟩
  · rw [upd_ne (ne_of_none (R.g b u e) hp)]; exact R.g b u e
  · rw [upd_ne (ne_of_none e hp)]; exact e
theorem qf_lst {t : TF2} (h : QA X F0 H0 es t) : QF X F0 H0 (.List es pos) (fLst t) := fun z E cx =>
  peC (pe_lst (h z E cx)) fun σ H Q ⟨F, Γ, P, R, h, k⟩ => ⟨F, Γ, _, R, h, fun ds Γ1 F1 H1 vs R1 s1 r1 h1 => ⟨by rw [← reps_len r1]; exact h1.1, fun p hp => by
    obtain ⟨R2, e1, e2, e3, ap⟩ := new_lst R1 hp r1
    exact k ds Γ1 F1 _ p vs R2 s1 e1 e2 e3 r1 ap h1.2⟩⟩
def cOf (t : TF2) : TE2 := fun Γ P E => t Γ (fun ds Γ1 => P (.lst ds) Γ1) E
theorem qe_of {t : TF2} (h : QF X F0 H0 e t) : QE X F0 H0 e (cOf t) := fun z E cx =>
  peC (h z E cx) fun σ H Q ⟨F, Γ, P, R, h, k⟩ => ⟨F, Γ, _, R, h, fun ds Γ1 F1 H1 a vs R1 s1 e1 e2 e3 r1 ap h1 => by
    obtain ⟨s2, _⟩ := frz_gr R1.g e1 e2
    refine k _ _ _ _ _ (R1.frzA e1 e2 e3 ap) (s1.trans s2) ?_ h1
    unfold Rep
    exact ⟨a, vs, rfl, .inl (.inl upd_same), r1.up s2⟩⟩

variable {st : Stmt} {sts : List Stmt} {t u : TS2}
def cNext : TS2 := fun D Γ _ => D.nx Γ
def cSeq (t u : TS2) : TS2 := fun D Γ E => t { D with nx := fun Γ' => u D Γ' E } Γ E
theorem qss_nil : QSs X F0 H0 [] cNext := fun z E cx => pssC pss_nil fun D σ H ⟨F, Γ, D2, R, h, k⟩ => k.nx _ _ _ _ R (.refl _) h
theorem qss_cons (h1 : QS X F0 H0 st t) (h2 : QSs X F0 H0 sts u) : QSs X F0 H0 (st :: sts) (cSeq t u) := fun z E cx =>
  pssC (pss_cons (h1 z E cx) (h2 z E cx)) fun D σ H ⟨F, Γ, D2, R, h, k⟩ => ⟨F, Γ, _, R, h, ⟨fun Γ' F' H' σ' R' s' q => ⟨F', Γ', D2, R', q, k.mono s'⟩, k.bk, k.ct, k.rt, k.rf⟩⟩
theorem qss_one (h1 : QS X F0 H0 st t) : QSs X F0 H0 [st] t := fun z E cx => pss_one (h1 z E cx)
def cBrk : TS2 := fun D Γ _ => D.bk Γ
def cCnt : TS2 := fun D Γ _ => D.ct Γ
def cDrop (te : TE2) : TS2 := fun D Γ E => te Γ (fun _ Γ1 => D.nx Γ1) E
theorem qs_expr (he : QE X F0 H0 e te) (hs : swapsWith e none pos.line X.env = pure false := by rfl) : QS X F0 H0 (.Expr e pos) (cDrop te) := fun z E cx =>
  psC (ps_expr (X := X.wsh z) (he z E cx) hs) fun D σ H ⟨F, Γ, D2, R, h, k⟩ => ⟨F, Γ, _, R, h, fun d Γ1 F1 H1 v R1 s1 r1 h1 => k.nx _ _ _ _ R1 s1 h1⟩
def cRet (te : TE2) : TS2 := fun D Γ E => te Γ (fun d _ => D.rt d) E
theorem qs_ret (he : QE X F0 H0 e te) : QS X F0 H0 (.Return (some e) pos) (cRet te) := fun z E cx =>
  psC (ps_ret (he z E cx)) fun D σ H ⟨F, Γ, D2, R, h, k⟩ => ⟨F, Γ, _, R, h, fun d Γ1 F1 H1 v R1 s1 r1 h1 => k.rt _ _ _ _ R1.gr r1 h1⟩
def cRetN : TS2 := fun D _ _ => D.rt .non
def cIfS (c : TT2) (t u : TS2) : TS2 := fun D Γ E => c Γ (fun b Γ1 => if b = true then t D Γ1 E else u D Γ1 E) E
theorem qs_if {x y : List Stmt} (hc : QT X F0 H0 c tA) (ha : QSs X F0 H0 x t) (hb : QSs X F0 H0 y u) : QS X F0 H0 (.If c x y pos) (cIfS tA t u) := fun z E cx =>
  psC (ps_if (hc z E cx) (ha z E cx) (hb z E cx)) fun D σ H ⟨F, Γ, D2, R, h, k⟩ => ⟨F, Γ, _, R, h, fun c Γ1 F1 H1 R1 s1 q => by
    cases c with
    | true => rw [if_pos rfl] at q ⊢; exact ⟨F1, Γ1, D2, R1, q, k.mono s1⟩
    | false => rw [if_neg Bool.false_ne_true] at q ⊢; exact ⟨F1, Γ1, D2, R1, q, k.mono s1⟩⟩
def cNever : TS2 := fun _ _ _ => False
def cSet (i : Nat) (te : TE2) : TS2 := fun D Γ E => te Γ (fun d Γ1 => D.nx (Γ1.set i (.pu d))) E
theorem qs_set {i : Nat} {x : Str} {pos' : Pos} (hN : X.N.Nodup) (hi : X.N[i]? = some x) (hx : Loc X.env.scope x) (he : QE X F0 H0 e te) (hs : swapsWith e (some (.Name x pos')) pos.line X.env = pure false := by rfl)
    (hf : X.fn x = true ∨ X.env.scope.names.lookup x = some .local := by first | exact .inl rfl | exact .inr rfl) : QS X F0 H0 (.Assign [.Name x pos'] e pos) (cSet i te) := fun z E cx =>
  psC (ps_set (X := X.wsh z) (i := i) hN hi hx (he z E cx) hs hf) fun D σ H ⟨F, Γ, D2, R, h, k⟩ => ⟨F, Γ, _, R, h, fun d Γ1 F1 H1 v R1 s1 r1 h1 => k.nx _ _ _ _ (R1.set i r1) s1 h1⟩
def cSetF (i : Nat) (t : TF2) : TS2 := fun D Γ E => t Γ (fun ds Γ1 => D.nx (Γ1.set i (.ow ds))) E
theorem qs_setF {i : Nat} {x : Str} {pos' : Pos} {tf : TF2} (hN : X.N.Nodup) (hi : X.N[i]? = some x) (hx : Loc X.env.scope x) (he : QF X F0 H0 e tf) (hs : swapsWith e (some (.Name x pos')) pos.line X.env = pure false := by rfl)
    (hf : X.fn x = true ∨ X.env.scope.names.lookup x = some .local := by first | exact .inl rfl | exact .inr rfl) : QS X F0 H0 (.Assign [.Name x pos'] e pos) (cSetF i tf) := fun z E cx =>
  psC (ps_set (X := X.wsh z) (i := i) hN hi hx (he z E cx) hs hf) fun D σ H ⟨F, Γ, D2, R, h, k⟩ => ⟨F, Γ, _, R, h, fun ds Γ1 F1 H1 a vs R1 s1 e1 e2 e3 r1 ap h1 => k.nx _ _ _ _ (R1.setOw i e1 e2 e3 r1 ap) s1 h1⟩
end
end L3

namespace L3
open PySem PySem.Spec PyProof.Rows L2

abbrev TG2 := D → G2 → (G2 → Prop) → XW → Prop
abbrev TGs2 := List D → G2 → (G2 → Prop) → XW → Prop
section
variable (K : PySem.W.Frag) (F0 H0 : Hp)
def upG (g : TG2) (E : XW) : TG := fun v σ H Q => ∃ F Γ P d, SR K F0 H0 F H σ Γ ∧ Rep K F d v ∧ g d Γ P E ∧ ∀ Γ' F' H' σ', SR K F0 H0 F' H' σ' Γ' → Same F F' → P Γ' → Q σ' H'
def upGs (g : TGs2) (E : XW) : TGs := fun vs σ H Q => ∃ F Γ P ds, SR K F0 H0 F H σ Γ ∧ Reps K F ds vs ∧ g ds Γ P E ∧ ∀ Γ' F' H' σ', SR K F0 H0 F' H' σ' Γ' → Same F F' → P Γ' → Q σ' H'
end
def QG (X : Cx) (F0 H0 : Hp) (e : Expr) (g : TG2) : Prop := ∀ z E, Ctx (X.wsh z) F0 H0 E → PG (X.wsh z) e (upG X.K F0 H0 g E)
def QGs (X : Cx) (F0 H0 : Hp) (es : List Expr) (g : TGs2) : Prop := ∀ z E, Ctx (X.wsh z) F0 H0 E → PGs (X.wsh z) es (upGs X.K F0 H0 g E)
section
variable {X : Cx} {F0 H0 : Hp} {e tg : Expr} {es : List Expr} {pos : Pos} {te : TE2} {g : TG2} {gs : TGs2}
theorem pgC {t t' : TG} (h : PG X e t) (hi : ∀ v σ H Q, t' v σ H Q → t v σ H Q) : PG X e t' := fun pins s σ H v u Q I r q => h pins s σ H v u Q I r (hi _ _ _ _ q)
theorem pgsC {t t' : TGs} (h : PGs X es t) (hi : ∀ v σ H Q, t' v σ H Q → t v σ H Q) : PGs X es t' := fun pins s σ H v u Q I r q => h pins s σ H v u Q I r (hi _ _ _ _ q)
def hName (i : Nat) : TG2 := fun d Γ Q _ => Q (Γ.set i (.pu d))
theorem qg_name {i : Nat} {x : Str} (hN : X.N.Nodup) (hi : X.N[i]? = some x) (hx : Loc X.env.scope x) (hf : X.fn x = true ∨ X.env.scope.names.lookup x = some .local := by first | exact .inl rfl | exact .inr rfl) : QG X F0 H0 (.Name x pos) (hName i) := fun z E cx =>
  pgC (pg_name (X := X.wsh z) (i := i) hN hi hx hf) fun v σ H Q ⟨F, Γ, P, d, R, r, h, k⟩ => k _ _ _ _ (R.set i r) (.refl _) h
def hNil : TGs2 := fun ds Γ Q _ => ds = [] ∧ Q Γ
def hCons (g : TG2) (gs : TGs2) : TGs2 := fun ds Γ Q E => match ds with | d :: r => g d Γ (fun Γ' => gs r Γ' Q E) E | [] => False
theorem qgs_nil : QGs X F0 H0 [] hNil := fun z E cx => pgsC pgs_nil fun vs σ H Q ⟨F, Γ, P, ds, R, r, h, k⟩ => by
  obtain ⟨rfl, h⟩ := h
  unfold Reps at r
  exact ⟨r, k _ _ _ _ R (.refl _) h⟩
theorem qgs_cons (h1 : QG X F0 H0 e g) (h2 : QGs X F0 H0 es gs) (hs : (assignEach (e :: es) X.env).map (·.2) = assign e X.env :: (assignEach es X.env).map (·.2) := by rfl) : QGs X F0 H0 (e :: es) (hCons g gs) := fun z E cx =>
  pgsC (pgs_cons (X := X.wsh z) (h1 z E cx) (h2 z E cx) hs) fun vs σ H Q ⟨F, Γ, P, ds, R, r, h, k⟩ => by
    cases ds with
    | nil => exact False.elim h
    | cons d ds =>
      unfold Reps at r
      obtain ⟨v, us, rfl, r1, r2⟩ := r
      exact ⟨v, us, rfl, F, Γ, _, d, R, r1, h, fun Γ1 F1 H1 σ1 R1 s1 q => ⟨F1, Γ1, P, ds, R1, r2.up s1, q, fun Γ2 F2 H2 σ2 R2 s2 p => k _ _ _ _ R2 (s1.trans s2) p⟩⟩
def hTup (n : Nat) (gs : TGs2) : TG2 := fun d Γ Q E => match d with | .tup ds => ds.length = n ∧ gs ds Γ Q E | _ => False
theorem qg_tup {k n : Nat} (hc : X.calm = true) (h : QGs X F0 H0 es gs) (hn : (assignEach es X.env).length = n := by rfl) (hst : (assignEach es X.env).findIdx? (·.1) = none := by rfl) : QG X F0 H0 (.Tuple es k pos) (hTup n gs) := fun z E cx =>
  pgC (pg_tup (X := X.wsh z) (n := n) hc (h z E cx) hn hst) fun v σ H Q ⟨F, Γ, P, d, R, r, h, k⟩ => by
    cases d with
    | tup ds =>
      unfold Rep at r
      obtain ⟨a, vs, rfl, hq, rs⟩ := r
      exact ⟨a, vs, rfl, sqT_mono R.g hq, by rw [← reps_len rs]; exact h.1, F, Γ, P, ds, R, rs, h.2, k⟩
    | _ => exact False.elim h
def cAsg (te : TE2) (g : TG2) : TS2 := fun D Γ E => te Γ (fun d Γ1 => g d Γ1 D.nx E) E
theorem qs_asg (he : QE X F0 H0 e te) (hg : QG X F0 H0 tg g) (hs : swapsWithSole [tg] e pos.line X.env = pure false := by rfl) (hw : swappedStores [tg] e X.env = pure none := by rfl)
    (h1 : (assignEach [tg] X.env).map (·.2) = [assign tg X.env] := by rfl) : QS X F0 H0 (.Assign [tg] e pos) (cAsg te g) := fun z E cx =>
  psC (ps_asg (X := X.wsh z) (he z E cx) (hg z E cx) hs hw h1) fun D σ H ⟨F, Γ, D2, R, h, k⟩ => ⟨F, Γ, _, R, h, fun d Γ1 F1 H1 v R1 s1 r1 h1 => ⟨F1, Γ1, _, d, R1, r1, h1, fun Γ2 F2 H2 σ2 R2 s2 p => k.nx _ _ _ _ R2 (s1.trans s2) p⟩⟩
def cPar (i j : Nat) (t : TF2) : TS2 := fun D Γ E => t Γ (fun ds Γ1 => match ds with | [x, y] => D.nx ((Γ1.set i (.pu x)).set j (.pu y)) | _ => False) E
def cWhile (c : TT2) (tb : TS2) : TS2 := fun D Γ E => ∃ W : Nat → G2 → Prop, (∃ m, W m Γ) ∧ ∀ m Γ, W m Γ →
  c Γ (fun b Γ1 => if b = true then tb { D with nx := fun Γ' => ∃ m', m' < m ∧ W m' Γ', ct := fun Γ' => ∃ m', m' < m ∧ W m' Γ', bk := D.nx } Γ1 E else D.nx Γ1) E
theorem qs_while {c : Expr} {body : List Stmt} {tc : TT2} {tb : TS2} (hc : QT X F0 H0 c tc) (hb : QSs X F0 H0 body tb) : QS X F0 H0 (.While c body [] pos) (cWhile tc tb) := fun z E cx =>
  psC (ps_while cx.po (hc z E cx) (hb z E cx)) fun D σ H ⟨F, Γ, D2, R, ⟨W, ⟨m, w0⟩, turn⟩, k⟩ => by
    refine ⟨fun m σ H => ∃ F1 Γ1, SR X.K F0 H0 F1 H σ Γ1 ∧ Same F F1 ∧ W m Γ1, ⟨m, F, Γ, R, .refl _, w0⟩, fun m σ H ⟨F1, Γ1, R1, s1, w1⟩ => ⟨F1, Γ1, _, R1, turn m Γ1 w1, fun b Γ2 F2 H2 R2 s2 q => ?_⟩⟩
    cases b with
    | true =>
      rw [if_pos rfl] at q ⊢
      refine ⟨fun σ' H' => ∃ m', m' < m ∧ ∃ F3 Γ3, SR X.K F0 H0 F3 H' σ' Γ3 ∧ Same F F3 ∧ W m' Γ3, fun σ' H' z => z, F2, Γ2, _, R2, q, ⟨fun Γ3 F3 H3 σ3 R3 s3 ⟨m', l, w3⟩ => ⟨m', l, F3, Γ3, R3, s1.trans (s2.trans s3), w3⟩, fun Γ3 F3 H3 σ3 R3 s3 p => k.nx _ _ _ _ R3 (s1.trans (s2.trans s3)) p,
        fun Γ3 F3 H3 σ3 R3 s3 ⟨m', l, w3⟩ => ⟨m', l, F3, Γ3, R3, s1.trans (s2.trans s3), w3⟩, k.rt, k.rf⟩⟩
    | false =>
      rw [if_neg Bool.false_ne_true] at q ⊢
      exact k.nx _ _ _ _ R2 (s1.trans s2) q
def iSeq (K : PySem.W.Frag) (tl : TE) : TI := fun σ H R => tl σ H fun x H1 => ∃ a, x = .ref a ∧ (((∃ xs, SqL K H1 a xs) ∧ R (Itl K a) H1) ∨ ((∃ xs, SqT K H1 a xs) ∧ R (Itt K a) H1))
theorem pi_seq {l : Expr} {tl : TE} (hl : PE X l tl) : PI X tg l (iSeq X.K tl) := by
  intro pins s σ H R I h
  refine thn (hl pins s σ H _ I h) fun v s1 ⟨x, H1, I1, r1, q1⟩ => ?_
  obtain ⟨a, e, q⟩ := q1
  subst e
  cases r1
  rcases q with ⟨⟨xs, hq⟩, q⟩ | ⟨⟨xs, hq⟩, q⟩
  · obtain ⟨its, rv, p, hz⟩ := I1.list hq
    refine wpAny_pyIter_list p.isList ?_
    refine ⟨s1.heap.objs.size, [s1.heap.objs.size], _, _, H1, rfl, I1.kept (t' := s1.toks) fun b o e => Heap.get?_push_of_some _ e, turn_list a _, ⟨_, Heap.get?_push_size _ rfl, rfl, rfl⟩, fun b hb => ?_, q⟩
    obtain rfl : b = s1.heap.objs.size := by simpa using hb
    exact I1.fpOk (Nat.le_refl _) (I1.hok.fresh (Nat.le_refl _))
  · obtain ⟨its, rv, p, hz⟩ := I1.tuple hq
    refine wpAny_pyIter_tuple (show s1.heap.IsTuple a its.toArray from p) ?_
    refine ⟨s1.heap.objs.size, [s1.heap.objs.size], _, _, H1, rfl, I1.kept (t' := s1.toks) fun b o e => Heap.get?_push_of_some _ e, turn_tuple a _, ⟨_, Heap.get?_push_size _ rfl, rfl, rfl⟩, fun b hb => ?_, q⟩
    obtain rfl : b = s1.heap.objs.size := by simpa using hb
    exact I1.fpOk (Nat.le_refl _) (I1.hok.fresh (Nat.le_refl _))
def LoopW (ds : List D) (g : TG2) (tb : TS2) (D0 : End2) (E : XW) (Γ : G2) : Prop := ∃ I : Nat → G2 → Prop, I 0 Γ ∧
  (∀ (i : Nat) x Γ, ds[i]? = some x → I i Γ → g x Γ (fun Γ' => tb { D0 with nx := I (i + 1), ct := I (i + 1), bk := D0.nx } Γ' E) E) ∧ ∀ Γ, I ds.length Γ → D0.nx Γ
def cFor (te : TE2) (g : TG2) (tb : TS2) : TS2 := fun D0 Γ E => te Γ (fun d Γ1 => match d with | .lst ds => LoopW ds g tb D0 E Γ1 | .tup ds => LoopW ds g tb D0 E Γ1 | _ => False) E
theorem qs_for {iter : Expr} {body : List Stmt} {tb : TS2} (hc : X.calm = true) (hi : QE X F0 H0 iter te) (hg : QG X F0 H0 tg g) (hb : QSs X F0 H0 body tb) (hs : ∀ x, foldedSetIterable iter X.env x = pure x := by intro _; rfl) :
    QS X F0 H0 (.For tg iter body [] pos) (cFor te g tb) := fun z E cx =>
  psC (ps_for (X := X.wsh z) cx.po hc (pi_seq (hi z E cx)) (hg z E cx) (hb z E cx) hs) fun Dn σ H ⟨F, Γ, D2, R, h, k⟩ => ⟨F, Γ, _, R, h, fun d Γ1 F1 H1 v R1 s1 r1 h1 => by
    have body : ∀ (ds : List L3.D) (vs : List V), Reps X.K F1 ds vs → ∀ I : Nat → G2 → Prop, (∀ (i : Nat) x Γ, ds[i]? = some x → I i Γ → g x Γ (fun Γ' => tb { D2 with nx := I (i + 1), ct := I (i + 1), bk := D2.nx } Γ' E) E) →
        ∀ (i : Nat) x σ H, vs[i]? = some x → (∃ F2 Γ2, SR X.K F0 H0 F2 H σ Γ2 ∧ Same F1 F2 ∧ I i Γ2) → upG X.K F0 H0 g E x σ H fun σ2 H2 => upS X.K F0 H0 tb E { Dn with nx := fun σ H => ∃ F2 Γ2, SR X.K F0 H0 F2 H σ Γ2 ∧ Same F1 F2 ∧ I (i + 1) Γ2, ct := fun σ H => ∃ F2 Γ2, SR X.K F0 H0 F2 H σ Γ2 ∧ Same F1 F2 ∧ I (i + 1) Γ2, bk := Dn.nx } σ2 H2 := by
      intro ds vs rs I turn i x σ H hx ⟨F2, Γ2, R2, s2, hI⟩
      obtain ⟨d, hd, rd⟩ := reps_get' rs hx
      exact ⟨F2, Γ2, _, d, R2, rd.up s2, turn i d Γ2 hd hI, fun Γ3 F3 H3 σ3 R3 s3 p => ⟨F3, Γ3, { D2 with nx := I (i + 1), ct := I (i + 1), bk := D2.nx }, R3, p, ⟨fun Γ4 F4 H4 σ4 R4 s4 q => ⟨F4, Γ4, R4, s2.trans (s3.trans s4), q⟩, fun Γ4 F4 H4 σ4 R4 s4 q => k.nx _ _ _ _ R4 (s1.trans (s2.trans (s3.trans s4))) q,
        fun Γ4 F4 H4 σ4 R4 s4 q => ⟨F4, Γ4, R4, s2.trans (s3.trans s4), q⟩, k.rt, k.rf⟩⟩⟩
    cases d with
    | lst ds =>
      unfold Rep at r1
      obtain ⟨a, vs, rfl, hq, rs⟩ := r1
      obtain ⟨I, i0, turn, done⟩ := h1
      refine ⟨a, rfl, .inl ⟨⟨vs, R1.g.seq hq⟩, for_list (xs := vs) (fun i σ H => ∃ F2 Γ2, SR X.K F0 H0 F2 H σ Γ2 ∧ Same F1 F2 ∧ I i Γ2) ⟨F1, Γ1, R1, .refl _, i0⟩ (fun i σ H _ ⟨F2, Γ2, R2, s2, _⟩ => R2.g.seq (s2.seq hq)) (body ds vs rs I turn) ?_⟩⟩
      rintro σ H ⟨F2, Γ2, R2, s2, hI⟩
      exact k.nx _ _ _ _ R2 (s1.trans s2) (done _ (by rw [reps_len rs]; exact hI))
    | tup ds =>
      unfold Rep at r1
      obtain ⟨a, vs, rfl, hq, rs⟩ := r1
      obtain ⟨I, i0, turn, done⟩ := h1
      refine ⟨a, rfl, .inr ⟨⟨vs, sqT_mono R1.g hq⟩, for_tup (xs := vs) (fun i σ H => ∃ F2 Γ2, SR X.K F0 H0 F2 H σ Γ2 ∧ Same F1 F2 ∧ I i Γ2) ⟨F1, Γ1, R1, .refl _, i0⟩ (fun i σ H _ ⟨F2, Γ2, R2, s2, _⟩ => sqT_mono R2.g (sqT_mono s2 hq)) (body ds vs rs I turn) ?_⟩⟩
      rintro σ H ⟨F2, Γ2, R2, s2, hI⟩
      exact k.nx _ _ _ _ R2 (s1.trans s2) (done _ (by rw [reps_len rs]; exact hI))
    | _ => exact False.elim h1⟩
def RngW (lo : Int) (n : Nat) (g : TG2) (tb : TS2) (D0 : End2) (E : XW) (Γ : G2) : Prop := ∃ I : Nat → G2 → Prop, I 0 Γ ∧
  (∀ (i : Nat) Γ, i < n → I i Γ → g (.int (lo + i)) Γ (fun Γ' => tb { D0 with nx := I (i + 1), ct := I (i + 1), bk := D0.nx } Γ' E) E) ∧ ∀ Γ, I n Γ → D0.nx Γ
theorem rng_up {K : PySem.W.Frag} {F1 H1 : Hp} {Γ1 : G2} {σ : St} {lo : Int} {n : Nat} {tb : TS2} {D2 : End2} {D : Ends} {E : XW} (R1 : SR K F0 H0 F1 H1 σ Γ1) (h : RngW lo n g tb D2 E Γ1) (k : EndR K F0 H0 F1 D2 D) :
    ∃ W : Nat → Nat → St → Hp → Prop, (∃ m, W 0 m σ H1) ∧ ∀ i m σ H, W i m σ H → ((Itr lo n).stop i H ∧ D.nx σ H) ∨ ((Itr lo n).go i H ∧ ∃ N : St → Hp → Prop, (∀ σ' H', N σ' H' → ∃ m', m' < m ∧ W (i + 1) m' σ' H') ∧
      ∀ x H', (Itr lo n).yld i H x H' → upG K F0 H0 g E x σ H' fun σ2 H2 => upS K F0 H0 tb E { D with nx := N, ct := N, bk := D.nx } σ2 H2) := by
  obtain ⟨I, i0, turn, done⟩ := h
  refine for_range (lo := lo) (n := n) (fun i σ H => ∃ F2 Γ2, SR K F0 H0 F2 H σ Γ2 ∧ Same F1 F2 ∧ I i Γ2) ⟨F1, Γ1, R1, .refl _, i0⟩ ?_ ?_
  · rintro i σ H hi ⟨F2, Γ2, R2, s2, hI⟩
    exact ⟨F2, Γ2, _, .int (lo + i), R2, by unfold Rep; rfl, turn i Γ2 hi hI, fun Γ3 F3 H3 σ3 R3 s3 p => ⟨F3, Γ3, _, R3, p, ⟨fun Γ4 F4 H4 σ4 R4 s4 q => ⟨F4, Γ4, R4, s2.trans (s3.trans s4), q⟩, fun Γ4 F4 H4 σ4 R4 s4 q => k.nx _ _ _ _ R4 (s2.trans (s3.trans s4)) q,
      fun Γ4 F4 H4 σ4 R4 s4 q => ⟨F4, Γ4, R4, s2.trans (s3.trans s4), q⟩, k.rt, k.rf⟩⟩⟩
  · rintro σ H ⟨F2, Γ2, R2, s2, hI⟩
    exact k.nx _ _ _ _ R2 s2 (done _ hI)
def cRng1 (t : TF2) (g : TG2) (tb : TS2) : TS2 := fun D0 Γ E => t Γ (fun ds Γ1 => match ds with | [.int j] => (-(2 ^ 62) ≤ j ∧ j < 2 ^ 62) ∧ RngW 0 j.toNat g tb D0 E Γ1 | _ => False) E
theorem qs_rng1 {a : Expr} {t : TF2} {p pc : Pos} {body : List Stmt} {tb : TS2} (hc : X.calm = true) (hgl : Gl X "range") (hm : X.mg "range" = none) (ha : QA X F0 H0 [a] t) (hg : QG X F0 H0 tg g) (hb : QSs X F0 H0 body tb)
    (hst : starEach [a] X.env = [(false, eval a X.env)] := by rfl) (hs : ∀ x, foldedSetIterable (.Call (.Name "range" p) [a] [] pc) X.env x = pure x := by intro _; rfl) : QS X F0 H0 (.For tg (.Call (.Name "range" p) [a] [] pc) body [] pos) (cRng1 t g tb) := fun z E cx =>
  psC (ps_for (X := X.wsh z) cx.po hc (pi_range1 hgl hm (ha z E cx) hst) (hg z E cx) (hb z E cx) hs) fun D σ H ⟨F, Γ, D2, R, h, k⟩ => ⟨F, Γ, _, R, h, fun ds Γ1 F1 H1 vs R1 s1 r1 h1 => by
    split at h1
    · rename_i j
      unfold Reps Reps Rep at r1
      obtain ⟨v, _, rfl, rfl, rfl⟩ := r1
      exact ⟨j, rfl, h1.1.1, h1.1.2, rng_up R1 h1.2 (k.mono s1)⟩
    · exact False.elim h1⟩
def cRng2 (t : TF2) (g : TG2) (tb : TS2) : TS2 := fun D0 Γ E => t Γ (fun ds Γ1 => match ds with | [.int i, .int j] => (-(2 ^ 62) ≤ i ∧ i < 2 ^ 62 ∧ -(2 ^ 62) ≤ j ∧ j < 2 ^ 62) ∧ RngW i (j - i).toNat g tb D0 E Γ1 | _ => False) E
theorem qs_rng2 {a b : Expr} {t : TF2} {p pc : Pos} {body : List Stmt} {tb : TS2} (hc : X.calm = true) (hgl : Gl X "range") (hm : X.mg "range" = none) (ha : QA X F0 H0 [a, b] t) (hg : QG X F0 H0 tg g) (hb : QSs X F0 H0 body tb)
    (hst : starEach [a, b] X.env = [(false, eval a X.env), (false, eval b X.env)] := by rfl) (hst2 : starEach [b] X.env = [(false, eval b X.env)] := by rfl) (hs : ∀ x, foldedSetIterable (.Call (.Name "range" p) [a, b] [] pc) X.env x = pure x := by intro _; rfl) : QS X F0 H0 (.For tg (.Call (.Name "range" p) [a, b] [] pc) body [] pos) (cRng2 t g tb) := fun z E cx =>
  psC (ps_for (X := X.wsh z) cx.po hc (pi_range2 hgl hm (ha z E cx) hst hst2) (hg z E cx) (hb z E cx) hs) fun D σ H ⟨F, Γ, D2, R, h, k⟩ => ⟨F, Γ, _, R, h, fun ds Γ1 F1 H1 vs R1 s1 r1 h1 => by
    split at h1
    · rename_i i j
      unfold Reps Reps Reps Rep at r1
      obtain ⟨v, _, rfl, rfl, v2, _, rfl, rfl, rfl⟩ := r1
      exact ⟨i, j, rfl, h1.1, rng_up R1 h1.2 (k.mono s1)⟩
    · exact False.elim h1⟩
def ItrS (lo st : Int) (n : Nat) : It := ⟨fun i _ => i < n, fun i H x H' => H' = H ∧ x = .int (lo + i * st), fun i _ => n ≤ i⟩
def iRng3 (ta : TA) : TI := fun σ H R => ta σ H fun vs H1 => ∃ (i j k : Int) (n : Nat), vs = [.int i, .int j, .int k] ∧ k ≠ 0 ∧ k.natAbs < 1073741824 ∧ Builtin.Range.small i j k = true ∧ Builtin.Range.rangeSize i j k = (n : Int) ∧ R (ItrS i k n) H1
def RngS (lo st : Int) (n : Nat) (g : TG2) (tb : TS2) (D0 : End2) (E : XW) (Γ : G2) : Prop := ∃ I : Nat → G2 → Prop, I 0 Γ ∧
  (∀ (i : Nat) Γ, i < n → I i Γ → g (.int (lo + i * st)) Γ (fun Γ' => tb { D0 with nx := I (i + 1), ct := I (i + 1), bk := D0.nx } Γ' E) E) ∧ ∀ Γ, I n Γ → D0.nx Γ
def cRng3 (t : TF2) (g : TG2) (tb : TS2) : TS2 := fun D0 Γ E => t Γ (fun ds Γ1 => match ds with
  | [.int i, .int j, .int k] => ∃ n : Nat, k ≠ 0 ∧ k.natAbs < 1073741824 ∧ Builtin.Range.small i j k = true ∧ Builtin.Range.rangeSize i j k = (n : Int) ∧ RngS i k n g tb D0 E Γ1
  | _ => False) E
end

abbrev Sp2 := List D → (D → Prop) → (Value → Prop) → Prop
def spUp (K : PySem.W.Frag) (sp : Sp2) : Sp := fun vs H Q E => ∃ F ds P Ex, Same F H ∧ Reps K F ds vs ∧ sp ds P Ex ∧ (∀ d v F' H', Gr F H F' H' → Rep K F' d v → P d → Q v H') ∧ ∀ C H', Ex C → Same H H' → E C none H'
def cCall (sp : Sp2) (t : TF2) : TE2 := fun Γ P E => t Γ (fun ds Γ1 => sp ds (fun d => P d Γ1) fun C => E Γ1 C) E
section
variable {X : Cx} {F0 H0 : Hp} {e : Expr} {es : List Expr} {pos p : Pos} {x : Str} {f : Addr} {fd : FuncData} {ps : List Str} {k : Nat} {sp : Sp2} {t : TF2}
theorem run2 {z : Wsh} {E : XW} {pins : List (Addr × Obj)} {s : Shared} {σ : St} {F H : Hp} {Γ : G2} {us : List Value} {vs : List V} {ds : List D} {P : D → Prop} {Q : VK} (Fn : FnOk X.prog X.w X.K X.mg X.base (CX1 X.prog X.w) k f fd ps (spUp X.K sp)) (hr : Room k X.A) (hb : Binds X.K fd ps []) (cx : Ctx (X.wsh z) F0 H0 E)
    (I : Inv (X.wsh z) pins σ H s) (R : SR X.K F0 H0 F H σ Γ) (r : Vals vs us) (rs : Reps X.K F ds vs) (h : sp ds P fun C => E Γ C) (hQ : ∀ d v F' H', Gr F H F' H' → Rep X.K F' d v → P d → Q v H') :
    wpAny (model X.prog X.w) X.A (call (.ref f) us) (EP (X.wsh z) pins σ Q) z.xe s := by
  have hs : spUp X.K sp vs H Q (fun C dx H' => E Γ C ∧ dx = none ∧ Same H H') := ⟨F, ds, P, _, R.g, rs, h, hQ, fun C H' hE hS => ⟨hE, rfl, hS⟩⟩
  have hl : (us ++ []).length = ps.length := by rw [List.append_nil, ← r.length]; exact Fn.len _ _ _ _ hs
  have hbs := hb s us I.kIn hl
  rw [List.append_nil] at hbs
  refine wpAny_call (codeAny_mono (Fn.run X.A X.stack s H ⟨us, []⟩ us vs Q _ hr I.env0 hbs r hs) fun r s' hq => ?_)
  cases r with
  | error e => exact cx.px pins σ Γ F H s e s' I R hq
  | ok fl =>
    cases fl with
    | ret u => exact I.after hq
    | next => exact False.elim hq
    | brk => exact False.elim hq
    | cont => exact False.elim hq
theorem qe_call (Fn : FnOk X.prog X.w X.K X.mg X.base (CX1 X.prog X.w) k f fd ps (spUp X.K sp)) (hr : Room k X.A) (hg : Gl X x) (hm : X.mg x = some (.ref f)) (hk : PySem.W.keepIn X.K (.ref f) = true) (hb : Binds X.K fd ps [])
    (ha : QA X F0 H0 (e :: es) t) (hdb : (x == ("__debug__" : Str)) = false := by decide) (he : starEach (e :: es) X.env = (false, eval e X.env) :: starEach es X.env := by rfl) (hpl : (backTo pos (starEach es X.env)).any (·.1) = false := by rfl) :
    QE X F0 H0 (.Call (.Name x p) (e :: es) [] pos) (cCall sp t) := by
  intro z E cx pins s σ H Q I ⟨F, Γ, P, R, h, kk⟩
  refine wpAny_Call_Name_kw (ld_glob (X := X.wsh z) I hg hm ?_ hdb)
  refine PySem.W.callWith_K (h₀ := X.base) I.ok.mod.kin hk (thn (ha z E cx pos pins s σ H (fun vs H1 => ∃ F1 Γ1 ds, SR X.K F0 H0 F1 H1 σ Γ1 ∧ Same F F1 ∧ Reps X.K F1 ds vs ∧ sp ds (fun d => P d Γ1) fun C => E Γ1 C) I ⟨F, Γ, _, R, h, fun ds Γ1 F1 H1 vs R1 s1 r1 h1 => ⟨F1, Γ1, ds, R1, s1, r1, h1⟩⟩) fun us s1 ⟨vs, H1, I1, r, F1, Γ1, ds, R1, sF, rs, q⟩ => ⟨I1.kIn, ?_⟩) he hpl
  exact run2 Fn hr hb cx I1 R1 r rs q fun d v F' H' gr rv hp => kk d Γ1 F' H' v (R1.grow gr) (sF.trans gr.f) rv hp
end

def start3 (n : Nat) (ds : List D) : G2 := ds.map .pu ++ List.replicate (n - ds.length) .no
abbrev start2 (N : List Str) (ds : List D) : G2 := start3 N.length ds
theorem sr_start {K : PySem.W.Frag} {F0 H : Hp} {N : List Str} {ds : List D} {vs : List V} (h : Same F0 H) (r : Reps K F0 ds vs) : SR K F0 H F0 H (L2.start N vs) (start2 N ds) := by
  have hl := reps_len r
  refine ⟨Gr.refl h, by simp [L2.start, start2, start3, hl], fun i s e => ?_, fun i j a es fs e => ?_⟩
  · unfold start2 start3 at e
    unfold L2.start
    by_cases hi : i < ds.length
    · rw [List.getElem?_append_left (by simpa using hi), List.getElem?_map] at e
      cases q : ds[i]? with
      | none => rw [q] at e; cases e
      | some d =>
        rw [q] at e; cases e
        obtain ⟨v, e1, r1⟩ := reps_get r q
        refine ⟨some v, ?_, v, rfl, r1⟩
        rw [List.getElem?_append_left (by rw [List.length_map, ← hl]; exact hi), List.getElem?_map, e1]; rfl
    · rw [List.getElem?_append_right (by simpa using hi), List.getElem?_replicate] at e
      split at e
      · cases e
        rename_i hlt
        simp only [List.length_map] at hlt
        refine ⟨none, ?_, trivial⟩
        rw [List.getElem?_append_right (by rw [List.length_map, ← hl]; omega), List.getElem?_replicate, if_pos (by rw [List.length_map, ← hl]; exact hlt)]
      · cases e
  · exfalso
    unfold start2 start3 at e
    by_cases hi : i < ds.length
    · rw [List.getElem?_append_left (by simpa using hi), List.getElem?_map] at e
      cases q : ds[i]? with
      | none => rw [q] at e; cases e
      | some d => rw [q] at e; cases e
    · rw [List.getElem?_append_right (by simpa using hi), List.getElem?_replicate] at e
      split at e <;> cases e
section
variable {P : Program} {w : World} {K : PySem.W.Frag} {mg : Str → Option Value} {base : Heap}
theorem fn2 {x qual : Str} {st : Stmt} {f : Addr} {fd : FuncData} {N ps : List Str} {k : Nat} {sp : Sp2} (Fn : Fun K x qual st f fd) (S : FnScope N ps (defScope st)) (len : ∀ ds Q E, sp ds Q E → ds.length = ps.length)
    (hbody : ∀ (cdv : Value) (A : Around) (outer : List Env) (s : Shared) (H : Hp) (E : XK), Room k (A.deeper (envOfC qual (defScope st) s.heap.objs.size f cdv)) → ∀ F0 : Hp,
      ∃ t, QSs (cxOf (CX1 P w) P w K mg base N qual (defScope st) f cdv A outer s H E) F0 H (defBody st) t ∧ ∀ ds Q Ex, sp ds Q Ex → t { nx := fun _ => Q .non, rt := Q } (start2 N ds) fun _ => Ex) :
    FnOk P w K mg base (CX1 P w) (k + 1) f fd ps (spUp K sp) := by
  obtain ⟨oc, od, kV, doc, pm, an, cdv, ct, osl, rfl, lk, hcd⟩ := Fn.ex
  refine fn_of lk hcd S (fun vs H Q E ⟨F, ds, P', Ex, _, rs, hs, _⟩ => by rw [← reps_len rs]; exact len _ _ _ hs) fun A outer s H vs Q E hr ⟨F0, ds, Pd, Ex, sF, rs, hsp, hQ, hE⟩ => ?_
  obtain ⟨t, ht, hq⟩ := hbody cdv A outer s H E hr F0
  have cx : Ctx ((cxOf (CX1 P w) P w K mg base N qual (defScope st) f cdv A outer s H E).wsh ⟨(cxOf (CX1 P w) P w K mg base N qual (defScope st) f cdv A outer s H E).xe, []⟩) F0 H (fun _ => Ex) := by
    refine ⟨fun pins σ Γ F H1 s1 e s' I R hx => ?_, PassesOwn.leaving⟩
    refine thn (pass_leave (E := fun C dx H' => E C dx H') I rfl rfl rfl (hx.imp fun C dx H' z => ?_)) fun _ s'' z => z
    obtain ⟨z1, rfl, z3⟩ := z
    exact hE C H' z1 (R.gr.h.trans z3)
  exact ⟨_, ht _ _ cx, F0, start2 N ds, { nx := fun _ => Pd .non, rt := Pd }, sr_start sF rs, hq ds Pd Ex hsp, ⟨fun Γ F' H' σ R' _ q => hQ _ _ _ _ R'.gr (by unfold Rep; rfl) q, fun _ _ _ _ _ _ q => q, fun _ _ _ _ _ _ q => q, fun d v F' H' gr rv q => hQ d v F' H' gr rv q, fun _ _ _ _ _ _ q => q.elim⟩⟩
end
end L3

namespace L3
open PySem PySem.Spec PyProof.Rows L2

def bln (i : Int) : Nat := Builtin.Int.intBits i
theorem bln_mul {i j : Int} (h : bln i + bln j ≤ 100000000) : IntMulOk i j := by
  unfold bln at h
  unfold IntMulOk
  intro z
  simp only [Bool.and_eq_true, decide_eq_true_eq] at z
  have z2 := z.2
  unfold Builtin.Int.intTooBig at z2
  have hb : bitsLine = 134217728 := by rfl
  rw [hb] at z2
  have := of_decide_eq_true z2
  omega
theorem bln_le {i : Int} {k : Nat} (h : i.natAbs < 2 ^ k) : bln i ≤ k := by
  unfold bln Builtin.Int.intBits
  split
  · exact Nat.zero_le _
  · rename_i q
    have n0 : i.natAbs ≠ 0 := fun z => by
      have : i = 0 := Int.natAbs_eq_zero.mp z
      subst this
      exact q rfl
    have := (Nat.log2_lt n0).mpr h
    omega
theorem bln_lt {i : Int} {k : Nat} (h : bln i ≤ k) : i.natAbs < 2 ^ k := by
  unfold bln Builtin.Int.intBits at h
  split at h
  · rename_i q
    have : i = 0 := by simpa using q
    subst this
    exact Nat.two_pow_pos k
  · rename_i q
    have n0 : i.natAbs ≠ 0 := fun z => by
      have : i = 0 := Int.natAbs_eq_zero.mp z
      subst this
      exact q rfl
    exact (Nat.log2_lt n0).mp (by omega)
theorem bln_mul_le (i j : Int) : bln (i * j) ≤ bln i + bln j := by
  refine bln_le ?_
  rw [Int.natAbs_mul, Nat.pow_add]
  exact Nat.mul_lt_mul'' (bln_lt (Nat.le_refl _)) (bln_lt (Nat.le_refl _))
theorem bln_add_le (i j : Int) : bln (i + j) ≤ max (bln i) (bln j) + 1 := by
  refine bln_le ?_
  have h1 : i.natAbs < 2 ^ (max (bln i) (bln j)) := bln_lt (Nat.le_max_left _ _)
  have h2 : j.natAbs < 2 ^ (max (bln i) (bln j)) := bln_lt (Nat.le_max_right _ _)
  have h3 := Int.natAbs_add_le i j
  rw [Nat.pow_succ]
  omega
theorem bln_neg (i : Int) : bln (-i) = bln i := by unfold bln Builtin.Int.intBits; simp
theorem bln_sub_le (i j : Int) : bln (i - j) ≤ max (bln i) (bln j) + 1 := by
  have h := bln_add_le i (-j)
  rw [bln_neg, ← Int.sub_eq_add_neg] at h
  exact h
theorem bln_mono {i j : Int} (h : i.natAbs ≤ j.natAbs) : bln i ≤ bln j := bln_le (Nat.lt_of_le_of_lt h (bln_lt (Nat.le_refl _)))

section
variable {X : Cx}
theorem op2_int {f : Value → Value → Sem Value} {C : Int → Int → Prop} {v : Int → Int → V} {d : Int → Int → D} {g : D → D → (D → Prop) → Prop} (ho : OpR X f (rI C v)) (hg : ∀ x y P, g x y P → ∃ i j, x = .int i ∧ y = .int j ∧ C i j ∧ P (d i j)) (hd : ∀ i j F, Rep X.K F (d i j) (v i j)) : OpR X f (rUp X.K g) := by
  intro pins s σ H x y u w Q I rx ry ⟨F, d1, d2, P, sF, r1, r2, h, k⟩
  obtain ⟨i, j, rfl, rfl, hc, hp⟩ := hg _ _ _ h
  unfold Rep at r1 r2
  subst r1 r2
  exact ho pins s σ H _ _ u w Q I rx ry ⟨i, j, rfl, rfl, hc, k _ _ F H (Gr.refl sF) (hd i j F) hp⟩
theorem op2_int0 {f : Value → Value → Sem Value} {v : Int → Int → V} {d : Int → Int → D} {g : D → D → (D → Prop) → Prop} (ho : OpR X f (rI0 v)) (hg : ∀ x y P, g x y P → ∃ i j, x = .int i ∧ y = .int j ∧ P (d i j)) (hd : ∀ i j F, Rep X.K F (d i j) (v i j)) : OpR X f (rUp X.K g) := by
  intro pins s σ H x y u w Q I rx ry ⟨F, d1, d2, P, sF, r1, r2, h, k⟩
  obtain ⟨i, j, rfl, rfl, hp⟩ := hg _ _ _ h
  unfold Rep at r1 r2
  subst r1 r2
  exact ho pins s σ H _ _ u w Q I rx ry ⟨i, j, rfl, rfl, k _ _ F H (Gr.refl sF) (hd i j F) hp⟩
def wI (C : Int → Int → Prop) (d : Int → Int → D) : D → D → (D → Prop) → Prop := fun x y P => match x, y with
  | .int i, .int j => C i j ∧ P (d i j)
  | _, _ => False
theorem wI_of {C : Int → Int → Prop} {d : Int → Int → D} {x y : D} {P : D → Prop} (h : wI C d x y P) : ∃ i j, x = .int i ∧ y = .int j ∧ C i j ∧ P (d i j) := by
  unfold wI at h
  split at h
  · exact ⟨_, _, rfl, rfl, h⟩
  · exact h.elim
def wI0 (d : Int → Int → D) : D → D → (D → Prop) → Prop := fun x y P => match x, y with
  | .int i, .int j => P (d i j)
  | _, _ => False
theorem wI0_of {d : Int → Int → D} {x y : D} {P : D → Prop} (h : wI0 d x y P) : ∃ i j, x = .int i ∧ y = .int j ∧ P (d i j) := by
  unfold wI0 at h
  split at h
  · exact ⟨_, _, rfl, rfl, h⟩
  · exact h.elim
def gAdd : D → D → (D → Prop) → Prop := fun x y P => match x, y with
  | .int i, .int j => P (.int (i + j))
  | .str i, .str j => i.length + j.length ≤ sizeLine ∧ P (.str (i ++ j))
  | _, _ => False
theorem o_add : OpR X (binaryOp .Add) (rUp X.K gAdd) := by
  intro pins s σ H x y u w Q I rx ry ⟨F, d1, d2, P, sF, r1, r2, h, k⟩
  unfold gAdd at h
  split at h
  · unfold Rep at r1 r2
    subst r1 r2
    exact op_add pins s σ H _ _ u w Q I rx ry ⟨_, _, rfl, rfl, k _ _ F H (Gr.refl sF) (by unfold Rep; rfl) h⟩
  · unfold Rep at r1 r2
    subst r1 r2
    exact op_add_str pins s σ H _ _ u w Q I rx ry ⟨_, _, rfl, rfl, h.1, k _ _ F H (Gr.refl sF) (by unfold Rep; rfl) h.2⟩
  · exact h.elim
def gSub : D → D → (D → Prop) → Prop := wI0 fun i j => .int (i - j)
theorem o_sub : OpR X (binaryOp .Sub) (rUp X.K gSub) := op2_int0 op_sub (fun _ _ _ h => wI0_of h) fun _ _ _ => by unfold Rep; rfl
def MulC (i j : Int) : Prop := bln i ≤ 64 ∨ bln j ≤ 64 ∨ bln i + bln j ≤ 100000000
theorem MulC.ok {i j : Int} (h : MulC i j) : IntMulOk i j := by
  rcases h with h | h | h
  · exact .of_left h
  · exact .of_right h
  · exact bln_mul h
def gMul : D → D → (D → Prop) → Prop := wI MulC fun i j => .int (i * j)
theorem o_mul : OpR X (binaryOp .Mult) (rUp X.K gMul) := op2_int (C := MulC) (v := fun i j => .int (i * j)) (opI fun i j _ _ _ _ _ hc q => mul_int q hc.ok) (fun _ _ _ h => wI_of h) fun _ _ _ => by unfold Rep; rfl
def gDiv : D → D → (D → Prop) → Prop := wI (fun _ j => j ≠ 0 ∧ bln j ≤ 9000) fun i j => .int (i.fdiv j)
theorem o_div : OpR X (binaryOp .FloorDiv) (rUp X.K gDiv) := op2_int (C := fun _ j => j ≠ 0 ∧ bln j ≤ 9000) (v := fun i j => .int (i.fdiv j)) (opI fun i j _ _ _ _ _ hc q => floordiv_int hc.1 q (.inl (PyProof.noPylong_of_log2 (by
  have := bln_lt hc.2
  exact (Nat.log2_lt (fun z => hc.1 (Int.natAbs_eq_zero.mp z))).mpr this)))) (fun _ _ _ h => wI_of h) fun _ _ _ => by unfold Rep; rfl
def gMod : D → D → (D → Prop) → Prop := wI (fun _ j => j ≠ 0) fun i j => .int (i.fmod j)
theorem o_mod : OpR X (binaryOp .Mod) (rUp X.K gMod) := op2_int (C := fun _ j => j ≠ 0) op_modN (fun _ _ _ h => wI_of h) fun _ _ _ => by unfold Rep; rfl
def gPow : D → D → (D → Prop) → Prop := wI CPow fun i j => .int (i ^ j.toNat)
def gLt : D → D → (D → Prop) → Prop := wI0 fun i j => .bl (decide (i < j))
theorem o_lt : OpR X (compareOp .Lt) (rUp X.K gLt) := op2_int0 op_lt (fun _ _ _ h => wI0_of h) fun _ _ _ => by unfold Rep; rfl
def gLe : D → D → (D → Prop) → Prop := wI0 fun i j => .bl (decide (i ≤ j))
def gGt : D → D → (D → Prop) → Prop := wI0 fun i j => .bl (decide (j < i))
theorem o_gt : OpR X (compareOp .Gt) (rUp X.K gGt) := op2_int0 op_gt (fun _ _ _ h => wI0_of h) fun _ _ _ => by unfold Rep; rfl
def gGe : D → D → (D → Prop) → Prop := wI0 fun i j => .bl (decide (j ≤ i))
def isNon : D → Bool | .non => true | _ => false
def gIs : D → D → (D → Prop) → Prop := fun x y P => match y with | .non => P (.bl (isNon x)) | .bl d => (match x with | .bl c => P (.bl (c == d)) | _ => False) | _ => False
def gIsN : D → D → (D → Prop) → Prop := fun x y P => match y with | .non => P (.bl (!isNon x)) | .bl d => (match x with | .bl c => P (.bl (c != d)) | _ => False) | _ => False
mutual
def deq : D → D → Bool
  | .non, .non => true
  | .bl a, .bl b => a == b
  | .int a, .int b => a == b
  | .str a, .str b => a == b
  | .tup xs, .tup ys => deqs xs ys
  | .lst xs, .lst ys => deqs xs ys
  | .exc a, .exc b => a == b
  | .ptr a, .ptr b => a == b
  | .obj C fs xs, .obj C' fs' ys => decide (C = C') && decide (fs = fs') && deqs xs ys
  | .dic ks xs, .dic ks' ys => decide (ks = ks') && deqs xs ys
  | .dit ks xs, .dit ks' ys => decide (ks = ks') && deqs xs ys
  | _, _ => false
def deqs : List D → List D → Bool
  | [], [] => true
  | x :: xs, y :: ys => deq x y && deqs xs ys
  | _, _ => false
end
def Cmp : Nat → D → D → Prop
  | _, .bl _, .int _ => False
  | _, .int _, .bl _ => False
  | _, .exc _, _ => False
  | _, _, .exc _ => False
  | _, .ptr _, _ => False
  | _, _, .ptr _ => False
  | _, .obj _ _ _, _ => False
  | _, _, .obj _ _ _ => False
  | _, .dic _ _, _ => False
  | _, _, .dic _ _ => False
  | _, .dit _ _, _ => False
  | _, _, .dit _ _ => False
  | 0, .tup _, .tup _ => False
  | 0, .lst _, .lst _ => False
  | n + 1, .tup xs, .tup ys => ∀ (i : Nat) x y, xs[i]? = some x → ys[i]? = some y → Cmp n x y
  | n + 1, .lst xs, .lst ys => ∀ (i : Nat) x y, xs[i]? = some x → ys[i]? = some y → Cmp n x y
  | _, _, _ => True
end

mutual
theorem deq_refl : ∀ d : D, deq d d = true
  | .non => by simp [deq]
  | .bl _ => by simp [deq]
  | .int _ => by simp [deq]
  | .str _ => by simp [deq]
  | .tup xs => by unfold deq; exact deqs_refl xs
  | .lst xs => by unfold deq; exact deqs_refl xs
  | .exc _ => by simp [deq]
  | .ptr _ => by simp [deq]
  | .obj _ _ xs => by unfold deq; rw [deqs_refl xs]; simp
  | .dic _ xs => by unfold deq; rw [deqs_refl xs]; simp
  | .dit _ xs => by unfold deq; rw [deqs_refl xs]; simp
theorem deqs_refl : ∀ ds : List D, deqs ds ds = true
  | [] => by simp [deqs]
  | d :: ds => by unfold deqs; rw [deq_refl d, deqs_refl ds]; rfl
end
open Classical in
theorem deqs_all : ∀ {xs ys : List D}, xs.length = ys.length → (∀ e : Nat → Bool, (∀ (i : Nat) x y, xs[i]? = some x → ys[i]? = some y → e i = deq x y) → (List.range xs.length).all e = deqs xs ys)
  | [], [], _, _, _ => by simp [deqs]
  | x :: xs, y :: ys, hl, e, he => by
    have ih := deqs_all (xs := xs) (ys := ys) (by simpa using hl) (fun i => e (i + 1)) fun i a b h1 h2 => he (i + 1) a b (by simpa using h1) (by simpa using h2)
    rw [List.length_cons, List.range_succ_eq_map, List.all_cons, List.all_map]
    unfold deqs
    rw [he 0 x y rfl rfl]
    congr 1
theorem deqs_len : ∀ {xs ys : List D}, xs.length ≠ ys.length → deqs xs ys = false
  | [], [], h => absurd rfl h
  | [], _ :: _, _ => by simp [deqs]
  | _ :: _, [], _ => by simp [deqs]
  | x :: xs, y :: ys, h => by
    unfold deqs
    rw [deqs_len (fun z => h (by simp [z])), Bool.and_false]
end L3

namespace L3
open PySem PySem.Spec PyProof.Rows L2

theorem deqs_of : ∀ {xs ys : List D}, xs.length = ys.length → (∀ (i : Nat) x y, xs[i]? = some x → ys[i]? = some y → deq x y = true) → deqs xs ys = true
  | [], [], _, _ => by simp [deqs]
  | x :: xs, y :: ys, hl, h => by
    unfold deqs
    rw [h 0 x y rfl rfl, deqs_of (by simpa using hl) fun i a b h1 h2 => h (i + 1) a b (by simpa using h1) (by simpa using h2)]
    rfl
section
variable {X : Cx} {pins : List (Addr × Obj)} {σ : St} {F H : Hp} {s : Shared}
theorem seq_kinds (I : Inv X pins σ H s) {a : Addr} {xs ys : List V} (h : SqL X.K H a xs) (h' : SqT X.K H a ys) : False := by
  obtain ⟨its, _, ⟨o, n, e, c, _, _⟩, _⟩ := I.list h
  obtain ⟨its', _, ⟨o', e', c', _⟩, _⟩ := I.tuple h'
  rw [e] at e'; cases e'
  rw [c] at c'
  injection c' with c'
  exact absurd c' (by decide)
theorem same_D (I : Inv X pins σ H s) (sF : Same F H) : ∀ (n : Nat) (d d' : D) (v : V), Cmp n d d' → Rep X.K F d v → Rep X.K F d' v → deq d d' = true := by
  intro n
  induction n with
  | zero =>
    intro d d' v hc r r'
    cases d <;> cases d' <;> simp only [Cmp] at hc <;> simp only [Rep] at r r' <;>
      first
      | (subst r; cases r'; exact deq_refl _)
      | (subst r; rcases r' with ⟨_, _, z, _⟩ <;> cases z)
      | (subst r'; rcases r with ⟨_, _, z, _⟩ <;> cases z)
      | (obtain ⟨a, vs, rfl, h1, _⟩ := r; obtain ⟨b, us, z, h2, _⟩ := r'; cases z
         first | exact (seq_kinds I (sF.seq h1) (sqT_mono sF h2)).elim | exact (seq_kinds I (sF.seq h2) (sqT_mono sF h1)).elim)
  | succ n ih =>
    intro d d' v hc r r'
    have go : ∀ {xs ys : List D} {vs us : List V}, vs = us → Reps X.K F xs vs → Reps X.K F ys us → (∀ (i : Nat) x y, xs[i]? = some x → ys[i]? = some y → Cmp n x y) → deqs xs ys = true := by
      intro xs ys vs us e r1 r2 hc
      subst e
      refine deqs_of (by rw [reps_len r1, reps_len r2]) fun i x y h1 h2 => ?_
      obtain ⟨v1, e1, q1⟩ := reps_get r1 h1
      obtain ⟨v2, e2, q2⟩ := reps_get r2 h2
      rw [e1] at e2; cases e2
      exact ih x y v1 (hc i x y h1 h2) q1 q2
    cases d <;> cases d' <;> simp only [Cmp] at hc <;> simp only [Rep] at r r' <;>
      first
      | (subst r; cases r'; exact deq_refl _)
      | (subst r; rcases r' with ⟨_, _, z, _⟩ <;> cases z)
      | (subst r'; rcases r with ⟨_, _, z, _⟩ <;> cases z)
      | (obtain ⟨a, vs, rfl, h1, q1⟩ := r; obtain ⟨b, us, z, h2, q2⟩ := r'; cases z
         first
         | (unfold deq; exact go (I.tuple_inj (sqT_mono sF h1) (sqT_mono sF h2)) q1 q2 hc)
         | (unfold deq; exact go (I.list_inj (sF.seq h1) (sF.seq h2)) q1 q2 hc)
         | exact (seq_kinds I (sF.seq h1) (sqT_mono sF h2)).elim
         | exact (seq_kinds I (sF.seq h2) (sqT_mono sF h1)).elim)
structure EqD (A : Around) (s : Shared) (v u : Value) (b : Bool) : Prop where
  eq : SeqAt.EqAt A s v u b
  rc : SeqAt.RcAt A s v u b
  ne : SeqAt.RcNeAt A s v u (!b)
theorem range_min {n m : Nat} (e : Nat → Bool) (h : n = m) : ((List.range (min n m)).all e && n == m) = (List.range n).all e := by
  subst h; simp
theorem eq_D (I : Inv X pins σ H s) (sF : Same F H) : ∀ (n : Nat) (A : Around) (d d' : D) (x y : V) (v u : Value), A.units + n + 1 < cLine → Cmp n d d' → Rep X.K F d x → Rep X.K F d' y → RelV x v → RelV y u → EqD A s v u (deq d d') := by
  intro n
  induction n with
  | zero =>
    intro A d d' x y v u hu hc r r' rv ru
    have hu0 : A.units < cLine := by omega
    cases d with
    | non =>
      simp only [Rep] at r
      subst r
      cases rv
      cases d' with
      | non =>
        simp only [Rep] at r'
        subst r'
        cases ru
        exact ⟨SeqAt.EqAt.same _, SeqAt.RcAt.none_none , SeqAt.RcNeAt.none_none ⟩
      | bl x2 =>
        simp only [Rep] at r'
        subst r'
        cases ru
        exact ⟨SeqAt.EqAt.none_bool _, SeqAt.RcAt.none_bool _, SeqAt.RcNeAt.none_bool _⟩
      | int x2 =>
        simp only [Rep] at r'
        subst r'
        obtain ⟨t2, rfl⟩ := ru
        exact ⟨SeqAt.EqAt.none_int _ _, SeqAt.RcAt.none_int _ _, SeqAt.RcNeAt.none_int _ _⟩
      | str x2 =>
        simp only [Rep] at r'
        subst r'
        obtain ⟨t2, rfl⟩ := ru
        exact ⟨SeqAt.EqAt.none_str _ _, SeqAt.RcAt.none_str _ _, SeqAt.RcNeAt.none_str _ _⟩
      | tup ys =>
        simp only [Rep] at r'
        obtain ⟨l2, us, rfl, h2, q2⟩ := r'
        cases ru
        obtain ⟨is2, p2, k2, _⟩ := I.tuple (sqT_mono sF h2)
        exact ⟨SeqAt.EqAt.none_tuple  k2 hu0, SeqAt.RcAt.none_tuple  k2 hu0, SeqAt.RcNeAt.none_tuple  k2 hu0⟩
      | lst ys =>
        simp only [Rep] at r'
        obtain ⟨l2, us, rfl, h2, q2⟩ := r'
        cases ru
        obtain ⟨is2, p2, k2', _⟩ := I.list (sF.seq h2)
        have k2 := k2'.isList
        exact ⟨SeqAt.EqAt.none_list  k2 hu0, SeqAt.RcAt.none_list  k2 hu0, SeqAt.RcNeAt.none_list  k2 hu0⟩
      | exc C =>
        exact False.elim (by simpa only [Cmp] using hc)
      | ptr _ =>
        exact False.elim (by simpa only [Cmp] using hc)
      | obj _ _ _ =>
        exact False.elim (by simpa only [Cmp] using hc)
      | dic _ _ =>
        exact False.elim (by simpa only [Cmp] using hc)
      | dit _ _ =>
        exact False.elim (by simpa only [Cmp] using hc)
    | bl x1 =>
      simp only [Rep] at r
      subst r
      cases rv
      cases d' with
      | non =>
        simp only [Rep] at r'
        subst r'
        cases ru
        exact ⟨SeqAt.EqAt.bool_none _, SeqAt.RcAt.bool_none _, SeqAt.RcNeAt.bool_none _⟩
      | bl x2 =>
        simp only [Rep] at r'
        subst r'
        cases ru
        exact ⟨SeqAt.EqAt.bool_bool _ _, SeqAt.RcAt.bool_bool _ _, SeqAt.RcNeAt.bool_bool _ _⟩
      | int x2 =>
        exact False.elim (by simpa only [Cmp] using hc)
      | str x2 =>
        simp only [Rep] at r'
        subst r'
        obtain ⟨t2, rfl⟩ := ru
        exact ⟨SeqAt.EqAt.bool_str _ _ _, SeqAt.RcAt.bool_str _ _ _, SeqAt.RcNeAt.bool_str _ _ _⟩
      | tup ys =>
        simp only [Rep] at r'
        obtain ⟨l2, us, rfl, h2, q2⟩ := r'
        cases ru
        obtain ⟨is2, p2, k2, _⟩ := I.tuple (sqT_mono sF h2)
        exact ⟨SeqAt.EqAt.bool_tuple _ k2 hu0, SeqAt.RcAt.bool_tuple _ k2 hu0, SeqAt.RcNeAt.bool_tuple _ k2 hu0⟩
      | lst ys =>
        simp only [Rep] at r'
        obtain ⟨l2, us, rfl, h2, q2⟩ := r'
        cases ru
        obtain ⟨is2, p2, k2', _⟩ := I.list (sF.seq h2)
        have k2 := k2'.isList
        exact ⟨SeqAt.EqAt.bool_list _ k2 hu0, SeqAt.RcAt.bool_list _ k2 hu0, SeqAt.RcNeAt.bool_list _ k2 hu0⟩
      | exc C =>
        exact False.elim (by simpa only [Cmp] using hc)
      | ptr _ =>
        exact False.elim (by simpa only [Cmp] using hc)
      | obj _ _ _ =>
        exact False.elim (by simpa only [Cmp] using hc)
      | dic _ _ =>
        exact False.elim (by simpa only [Cmp] using hc)
      | dit _ _ =>
        exact False.elim (by simpa only [Cmp] using hc)
    | int x1 =>
      simp only [Rep] at r
      subst r
      obtain ⟨t1, rfl⟩ := rv
      cases d' with
      | non =>
        simp only [Rep] at r'
        subst r'
        cases ru
        exact ⟨SeqAt.EqAt.int_none _ _, SeqAt.RcAt.int_none _ _, SeqAt.RcNeAt.int_none _ _⟩
      | bl x2 =>
        exact False.elim (by simpa only [Cmp] using hc)
      | int x2 =>
        simp only [Rep] at r'
        subst r'
        obtain ⟨t2, rfl⟩ := ru
        exact ⟨SeqAt.EqAt.int_int _ _ _ _, SeqAt.RcAt.int_int _ _ _ _, SeqAt.RcNeAt.int_int _ _ _ _⟩
      | str x2 =>
        simp only [Rep] at r'
        subst r'
        obtain ⟨t2, rfl⟩ := ru
        exact ⟨SeqAt.EqAt.int_str _ _ _ _, SeqAt.RcAt.int_str _ _ _ _, SeqAt.RcNeAt.int_str _ _ _ _⟩
      | tup ys =>
        simp only [Rep] at r'
        obtain ⟨l2, us, rfl, h2, q2⟩ := r'
        cases ru
        obtain ⟨is2, p2, k2, _⟩ := I.tuple (sqT_mono sF h2)
        exact ⟨SeqAt.EqAt.int_tuple _ _ k2 hu0, SeqAt.RcAt.int_tuple _ _ k2 hu0, SeqAt.RcNeAt.int_tuple _ _ k2 hu0⟩
      | lst ys =>
        simp only [Rep] at r'
        obtain ⟨l2, us, rfl, h2, q2⟩ := r'
        cases ru
        obtain ⟨is2, p2, k2', _⟩ := I.list (sF.seq h2)
        have k2 := k2'.isList
        exact ⟨SeqAt.EqAt.int_list _ _ k2 hu0, SeqAt.RcAt.int_list _ _ k2 hu0, SeqAt.RcNeAt.int_list _ _ k2 hu0⟩
      | exc C =>
        exact False.elim (by simpa only [Cmp] using hc)
      | ptr _ =>
        exact False.elim (by simpa only [Cmp] using hc)
      | obj _ _ _ =>
        exact False.elim (by simpa only [Cmp] using hc)
      | dic _ _ =>
        exact False.elim (by simpa only [Cmp] using hc)
      | dit _ _ =>
        exact False.elim (by simpa only [Cmp] using hc)
    | str x1 =>
      simp only [Rep] at r
      subst r
      obtain ⟨t1, rfl⟩ := rv
      cases d' with
      | non =>
        simp only [Rep] at r'
        subst r'
        cases ru
        exact ⟨SeqAt.EqAt.str_none _ _, SeqAt.RcAt.str_none _ _, SeqAt.RcNeAt.str_none _ _⟩
      | bl x2 =>
        simp only [Rep] at r'
        subst r'
        cases ru
        exact ⟨SeqAt.EqAt.str_bool _ _ _, SeqAt.RcAt.str_bool _ _ _, SeqAt.RcNeAt.str_bool _ _ _⟩
      | int x2 =>
        simp only [Rep] at r'
        subst r'
        obtain ⟨t2, rfl⟩ := ru
        exact ⟨SeqAt.EqAt.str_int _ _ _ _, SeqAt.RcAt.str_int _ _ _ _, SeqAt.RcNeAt.str_int _ _ _ _⟩
      | str x2 =>
        simp only [Rep] at r'
        subst r'
        obtain ⟨t2, rfl⟩ := ru
        exact ⟨SeqAt.EqAt.str_str _ _ _ _, SeqAt.RcAt.str_str _ _ _ _, SeqAt.RcNeAt.str_str _ _ _ _⟩
      | tup ys =>
        simp only [Rep] at r'
        obtain ⟨l2, us, rfl, h2, q2⟩ := r'
        cases ru
        obtain ⟨is2, p2, k2, _⟩ := I.tuple (sqT_mono sF h2)
        exact ⟨SeqAt.EqAt.str_tuple _ _ k2 hu0, SeqAt.RcAt.str_tuple _ _ k2 hu0, SeqAt.RcNeAt.str_tuple _ _ k2 hu0⟩
      | lst ys =>
        simp only [Rep] at r'
        obtain ⟨l2, us, rfl, h2, q2⟩ := r'
        cases ru
        obtain ⟨is2, p2, k2', _⟩ := I.list (sF.seq h2)
        have k2 := k2'.isList
        exact ⟨SeqAt.EqAt.str_list _ _ k2 hu0, SeqAt.RcAt.str_list _ _ k2 hu0, SeqAt.RcNeAt.str_list _ _ k2 hu0⟩
      | exc C =>
        exact False.elim (by simpa only [Cmp] using hc)
      | ptr _ =>
        exact False.elim (by simpa only [Cmp] using hc)
      | obj _ _ _ =>
        exact False.elim (by simpa only [Cmp] using hc)
      | dic _ _ =>
        exact False.elim (by simpa only [Cmp] using hc)
      | dit _ _ =>
        exact False.elim (by simpa only [Cmp] using hc)
    | tup xs =>
      simp only [Rep] at r
      obtain ⟨l1, vs, rfl, h1, q1⟩ := r
      cases rv
      obtain ⟨is1, p1, k1, _⟩ := I.tuple (sqT_mono sF h1)
      cases d' with
      | non =>
        simp only [Rep] at r'
        subst r'
        cases ru
        exact ⟨SeqAt.EqAt.tuple_none  k1 hu0, SeqAt.RcAt.tuple_none  k1 hu0, SeqAt.RcNeAt.tuple_none  k1 hu0⟩
      | bl x2 =>
        simp only [Rep] at r'
        subst r'
        cases ru
        exact ⟨SeqAt.EqAt.tuple_bool _ k1 hu0, SeqAt.RcAt.tuple_bool _ k1 hu0, SeqAt.RcNeAt.tuple_bool _ k1 hu0⟩
      | int x2 =>
        simp only [Rep] at r'
        subst r'
        obtain ⟨t2, rfl⟩ := ru
        exact ⟨SeqAt.EqAt.tuple_int _ _ k1 hu0, SeqAt.RcAt.tuple_int _ _ k1 hu0, SeqAt.RcNeAt.tuple_int _ _ k1 hu0⟩
      | str x2 =>
        simp only [Rep] at r'
        subst r'
        obtain ⟨t2, rfl⟩ := ru
        exact ⟨SeqAt.EqAt.tuple_str _ _ k1 hu0, SeqAt.RcAt.tuple_str _ _ k1 hu0, SeqAt.RcNeAt.tuple_str _ _ k1 hu0⟩
      | tup ys =>
        simp only [Rep] at r'
        obtain ⟨l2, us, rfl, h2, q2⟩ := r'
        cases ru
        obtain ⟨is2, p2, k2, _⟩ := I.tuple (sqT_mono sF h2)
        exact False.elim (by simpa only [Cmp] using hc)
      | lst ys =>
        simp only [Rep] at r'
        obtain ⟨l2, us, rfl, h2, q2⟩ := r'
        cases ru
        obtain ⟨is2, p2, k2', _⟩ := I.list (sF.seq h2)
        have k2 := k2'.isList
        exact ⟨SeqAt.EqAt.tuple_list k1 k2 hu0, SeqAt.RcAt.tuple_list k1 k2 hu0, SeqAt.RcNeAt.tuple_list k1 k2 hu0⟩
      | exc C =>
        exact False.elim (by simpa only [Cmp] using hc)
      | ptr _ =>
        exact False.elim (by simpa only [Cmp] using hc)
      | obj _ _ _ =>
        exact False.elim (by simpa only [Cmp] using hc)
      | dic _ _ =>
        exact False.elim (by simpa only [Cmp] using hc)
      | dit _ _ =>
        exact False.elim (by simpa only [Cmp] using hc)
    | lst xs =>
      simp only [Rep] at r
      obtain ⟨l1, vs, rfl, h1, q1⟩ := r
      cases rv
      obtain ⟨is1, p1, k1', _⟩ := I.list (sF.seq h1)
      have k1 := k1'.isList
      cases d' with
      | non =>
        simp only [Rep] at r'
        subst r'
        cases ru
        exact ⟨SeqAt.EqAt.list_none  k1 hu0, SeqAt.RcAt.list_none  k1 hu0, SeqAt.RcNeAt.list_none  k1 hu0⟩
      | bl x2 =>
        simp only [Rep] at r'
        subst r'
        cases ru
        exact ⟨SeqAt.EqAt.list_bool _ k1 hu0, SeqAt.RcAt.list_bool _ k1 hu0, SeqAt.RcNeAt.list_bool _ k1 hu0⟩
      | int x2 =>
        simp only [Rep] at r'
        subst r'
        obtain ⟨t2, rfl⟩ := ru
        exact ⟨SeqAt.EqAt.list_int _ _ k1 hu0, SeqAt.RcAt.list_int _ _ k1 hu0, SeqAt.RcNeAt.list_int _ _ k1 hu0⟩
      | str x2 =>
        simp only [Rep] at r'
        subst r'
        obtain ⟨t2, rfl⟩ := ru
        exact ⟨SeqAt.EqAt.list_str _ _ k1 hu0, SeqAt.RcAt.list_str _ _ k1 hu0, SeqAt.RcNeAt.list_str _ _ k1 hu0⟩
      | tup ys =>
        simp only [Rep] at r'
        obtain ⟨l2, us, rfl, h2, q2⟩ := r'
        cases ru
        obtain ⟨is2, p2, k2, _⟩ := I.tuple (sqT_mono sF h2)
        exact ⟨SeqAt.EqAt.list_tuple k1 k2 hu0, SeqAt.RcAt.list_tuple k1 k2 hu0, SeqAt.RcNeAt.list_tuple k1 k2 hu0⟩
      | lst ys =>
        simp only [Rep] at r'
        obtain ⟨l2, us, rfl, h2, q2⟩ := r'
        cases ru
        obtain ⟨is2, p2, k2', _⟩ := I.list (sF.seq h2)
        have k2 := k2'.isList
        exact False.elim (by simpa only [Cmp] using hc)
      | exc C =>
        exact False.elim (by simpa only [Cmp] using hc)
      | ptr _ =>
        exact False.elim (by simpa only [Cmp] using hc)
      | obj _ _ _ =>
        exact False.elim (by simpa only [Cmp] using hc)
      | dic _ _ =>
        exact False.elim (by simpa only [Cmp] using hc)
      | dit _ _ =>
        exact False.elim (by simpa only [Cmp] using hc)
    | exc C => cases d' <;> exact False.elim (by simpa only [Cmp] using hc)
    | ptr _ => cases d' <;> exact False.elim (by simpa only [Cmp] using hc)
    | obj _ _ _ => cases d' <;> exact False.elim (by simpa only [Cmp] using hc)
    | dic _ _ => cases d' <;> exact False.elim (by simpa only [Cmp] using hc)
    | dit _ _ => cases d' <;> exact False.elim (by simpa only [Cmp] using hc)
  | succ n ih =>
    intro A d d' x y v u hu hc r r' rv ru
    have hu0 : A.units < cLine := by omega
    cases d with
    | non =>
      simp only [Rep] at r
      subst r
      cases rv
      cases d' with
      | non =>
        simp only [Rep] at r'
        subst r'
        cases ru
        exact ⟨SeqAt.EqAt.same _, SeqAt.RcAt.none_none , SeqAt.RcNeAt.none_none ⟩
      | bl x2 =>
        simp only [Rep] at r'
        subst r'
        cases ru
        exact ⟨SeqAt.EqAt.none_bool _, SeqAt.RcAt.none_bool _, SeqAt.RcNeAt.none_bool _⟩
      | int x2 =>
        simp only [Rep] at r'
        subst r'
        obtain ⟨t2, rfl⟩ := ru
        exact ⟨SeqAt.EqAt.none_int _ _, SeqAt.RcAt.none_int _ _, SeqAt.RcNeAt.none_int _ _⟩
      | str x2 =>
        simp only [Rep] at r'
        subst r'
        obtain ⟨t2, rfl⟩ := ru
        exact ⟨SeqAt.EqAt.none_str _ _, SeqAt.RcAt.none_str _ _, SeqAt.RcNeAt.none_str _ _⟩
      | tup ys =>
        simp only [Rep] at r'
        obtain ⟨l2, us, rfl, h2, q2⟩ := r'
        cases ru
        obtain ⟨is2, p2, k2, _⟩ := I.tuple (sqT_mono sF h2)
        exact ⟨SeqAt.EqAt.none_tuple  k2 hu0, SeqAt.RcAt.none_tuple  k2 hu0, SeqAt.RcNeAt.none_tuple  k2 hu0⟩
      | lst ys =>
        simp only [Rep] at r'
        obtain ⟨l2, us, rfl, h2, q2⟩ := r'
        cases ru
        obtain ⟨is2, p2, k2', _⟩ := I.list (sF.seq h2)
        have k2 := k2'.isList
        exact ⟨SeqAt.EqAt.none_list  k2 hu0, SeqAt.RcAt.none_list  k2 hu0, SeqAt.RcNeAt.none_list  k2 hu0⟩
      | exc C =>
        exact False.elim (by simpa only [Cmp] using hc)
      | ptr _ =>
        exact False.elim (by simpa only [Cmp] using hc)
      | obj _ _ _ =>
        exact False.elim (by simpa only [Cmp] using hc)
      | dic _ _ =>
        exact False.elim (by simpa only [Cmp] using hc)
      | dit _ _ =>
        exact False.elim (by simpa only [Cmp] using hc)
    | bl x1 =>
      simp only [Rep] at r
      subst r
      cases rv
      cases d' with
      | non =>
        simp only [Rep] at r'
        subst r'
        cases ru
        exact ⟨SeqAt.EqAt.bool_none _, SeqAt.RcAt.bool_none _, SeqAt.RcNeAt.bool_none _⟩
      | bl x2 =>
        simp only [Rep] at r'
        subst r'
        cases ru
        exact ⟨SeqAt.EqAt.bool_bool _ _, SeqAt.RcAt.bool_bool _ _, SeqAt.RcNeAt.bool_bool _ _⟩
      | int x2 =>
        exact False.elim (by simpa only [Cmp] using hc)
      | str x2 =>
        simp only [Rep] at r'
        subst r'
        obtain ⟨t2, rfl⟩ := ru
        exact ⟨SeqAt.EqAt.bool_str _ _ _, SeqAt.RcAt.bool_str _ _ _, SeqAt.RcNeAt.bool_str _ _ _⟩
      | tup ys =>
        simp only [Rep] at r'
        obtain ⟨l2, us, rfl, h2, q2⟩ := r'
        cases ru
        obtain ⟨is2, p2, k2, _⟩ := I.tuple (sqT_mono sF h2)
        exact ⟨SeqAt.EqAt.bool_tuple _ k2 hu0, SeqAt.RcAt.bool_tuple _ k2 hu0, SeqAt.RcNeAt.bool_tuple _ k2 hu0⟩
      | lst ys =>
        simp only [Rep] at r'
        obtain ⟨l2, us, rfl, h2, q2⟩ := r'
        cases ru
        obtain ⟨is2, p2, k2', _⟩ := I.list (sF.seq h2)
        have k2 := k2'.isList
        exact ⟨SeqAt.EqAt.bool_list _ k2 hu0, SeqAt.RcAt.bool_list _ k2 hu0, SeqAt.RcNeAt.bool_list _ k2 hu0⟩
      | exc C =>
        exact False.elim (by simpa only [Cmp] using hc)
      | ptr _ =>
        exact False.elim (by simpa only [Cmp] using hc)
      | obj _ _ _ =>
        exact False.elim (by simpa only [Cmp] using hc)
      | dic _ _ =>
        exact False.elim (by simpa only [Cmp] using hc)
      | dit _ _ =>
        exact False.elim (by simpa only [Cmp] using hc)
    | int x1 =>
      simp only [Rep] at r
      subst r
      obtain ⟨t1, rfl⟩ := rv
      cases d' with
      | non =>
        simp only [Rep] at r'
        subst r'
        cases ru
        exact ⟨SeqAt.EqAt.int_none _ _, SeqAt.RcAt.int_none _ _, SeqAt.RcNeAt.int_none _ _⟩
      | bl x2 =>
        exact False.elim (by simpa only [Cmp] using hc)
      | int x2 =>
        simp only [Rep] at r'
        subst r'
        obtain ⟨t2, rfl⟩ := ru
        exact ⟨SeqAt.EqAt.int_int _ _ _ _, SeqAt.RcAt.int_int _ _ _ _, SeqAt.RcNeAt.int_int _ _ _ _⟩
      | str x2 =>
        simp only [Rep] at r'
        subst r'
        obtain ⟨t2, rfl⟩ := ru
        exact ⟨SeqAt.EqAt.int_str _ _ _ _, SeqAt.RcAt.int_str _ _ _ _, SeqAt.RcNeAt.int_str _ _ _ _⟩
      | tup ys =>
        simp only [Rep] at r'
        obtain ⟨l2, us, rfl, h2, q2⟩ := r'
        cases ru
        obtain ⟨is2, p2, k2, _⟩ := I.tuple (sqT_mono sF h2)
        exact ⟨SeqAt.EqAt.int_tuple _ _ k2 hu0, SeqAt.RcAt.int_tuple _ _ k2 hu0, SeqAt.RcNeAt.int_tuple _ _ k2 hu0⟩
      | lst ys =>
        simp only [Rep] at r'
        obtain ⟨l2, us, rfl, h2, q2⟩ := r'
        cases ru
        obtain ⟨is2, p2, k2', _⟩ := I.list (sF.seq h2)
        have k2 := k2'.isList
        exact ⟨SeqAt.EqAt.int_list _ _ k2 hu0, SeqAt.RcAt.int_list _ _ k2 hu0, SeqAt.RcNeAt.int_list _ _ k2 hu0⟩
      | exc C =>
        exact False.elim (by simpa only [Cmp] using hc)
      | ptr _ =>
        exact False.elim (by simpa only [Cmp] using hc)
      | obj _ _ _ =>
        exact False.elim (by simpa only [Cmp] using hc)
      | dic _ _ =>
        exact False.elim (by simpa only [Cmp] using hc)
      | dit _ _ =>
        exact False.elim (by simpa only [Cmp] using hc)
    | str x1 =>
      simp only [Rep] at r
      subst r
      obtain ⟨t1, rfl⟩ := rv
      cases d' with
      | non =>
        simp only [Rep] at r'
        subst r'
        cases ru
        exact ⟨SeqAt.EqAt.str_none _ _, SeqAt.RcAt.str_none _ _, SeqAt.RcNeAt.str_none _ _⟩
      | bl x2 =>
        simp only [Rep] at r'
        subst r'
        cases ru
        exact ⟨SeqAt.EqAt.str_bool _ _ _, SeqAt.RcAt.str_bool _ _ _, SeqAt.RcNeAt.str_bool _ _ _⟩
      | int x2 =>
        simp only [Rep] at r'
        subst r'
        obtain ⟨t2, rfl⟩ := ru
        exact ⟨SeqAt.EqAt.str_int _ _ _ _, SeqAt.RcAt.str_int _ _ _ _, SeqAt.RcNeAt.str_int _ _ _ _⟩
      | str x2 =>
        simp only [Rep] at r'
        subst r'
        obtain ⟨t2, rfl⟩ := ru
        exact ⟨SeqAt.EqAt.str_str _ _ _ _, SeqAt.RcAt.str_str _ _ _ _, SeqAt.RcNeAt.str_str _ _ _ _⟩
      | tup ys =>
        simp only [Rep] at r'
        obtain ⟨l2, us, rfl, h2, q2⟩ := r'
        cases ru
        obtain ⟨is2, p2, k2, _⟩ := I.tuple (sqT_mono sF h2)
        exact ⟨SeqAt.EqAt.str_tuple _ _ k2 hu0, SeqAt.RcAt.str_tuple _ _ k2 hu0, SeqAt.RcNeAt.str_tuple _ _ k2 hu0⟩
      | lst ys =>
        simp only [Rep] at r'
        obtain ⟨l2, us, rfl, h2, q2⟩ := r'
        cases ru
        obtain ⟨is2, p2, k2', _⟩ := I.list (sF.seq h2)
        have k2 := k2'.isList
        exact ⟨SeqAt.EqAt.str_list _ _ k2 hu0, SeqAt.RcAt.str_list _ _ k2 hu0, SeqAt.RcNeAt.str_list _ _ k2 hu0⟩
      | exc C =>
        exact False.elim (by simpa only [Cmp] using hc)
      | ptr _ =>
        exact False.elim (by simpa only [Cmp] using hc)
      | obj _ _ _ =>
        exact False.elim (by simpa only [Cmp] using hc)
      | dic _ _ =>
        exact False.elim (by simpa only [Cmp] using hc)
      | dit _ _ =>
        exact False.elim (by simpa only [Cmp] using hc)
    | tup xs =>
      simp only [Rep] at r
      obtain ⟨l1, vs, rfl, h1, q1⟩ := r
      cases rv
      obtain ⟨is1, p1, k1, _⟩ := I.tuple (sqT_mono sF h1)
      cases d' with
      | non =>
        simp only [Rep] at r'
        subst r'
        cases ru
        exact ⟨SeqAt.EqAt.tuple_none  k1 hu0, SeqAt.RcAt.tuple_none  k1 hu0, SeqAt.RcNeAt.tuple_none  k1 hu0⟩
      | bl x2 =>
        simp only [Rep] at r'
        subst r'
        cases ru
        exact ⟨SeqAt.EqAt.tuple_bool _ k1 hu0, SeqAt.RcAt.tuple_bool _ k1 hu0, SeqAt.RcNeAt.tuple_bool _ k1 hu0⟩
      | int x2 =>
        simp only [Rep] at r'
        subst r'
        obtain ⟨t2, rfl⟩ := ru
        exact ⟨SeqAt.EqAt.tuple_int _ _ k1 hu0, SeqAt.RcAt.tuple_int _ _ k1 hu0, SeqAt.RcNeAt.tuple_int _ _ k1 hu0⟩
      | str x2 =>
        simp only [Rep] at r'
        subst r'
        obtain ⟨t2, rfl⟩ := ru
        exact ⟨SeqAt.EqAt.tuple_str _ _ k1 hu0, SeqAt.RcAt.tuple_str _ _ k1 hu0, SeqAt.RcNeAt.tuple_str _ _ k1 hu0⟩
      | tup ys =>
        simp only [Rep] at r'
        obtain ⟨l2, us, rfl, h2, q2⟩ := r'
        cases ru
        obtain ⟨is2, p2, k2, _⟩ := I.tuple (sqT_mono sF h2)
        simp only [Cmp] at hc
        have el1 : is1.length = xs.length := by rw [← p1.length, reps_len q1]
        have el2 : is2.length = ys.length := by rw [← p2.length, reps_len q2]
        have at_ : ∀ j (g1 : j < is1.toArray.size) (g2 : j < is2.toArray.size), SeqAt.EqAt A.in1 s is1.toArray[j] is2.toArray[j] ((fun j => match xs[j]?, ys[j]? with | some a, some b => deq a b | _, _ => false) j) := by
          intro j g1 g2
          have g1' : j < xs.length := by simpa [el1] using g1
          have g2' : j < ys.length := by simpa [el2] using g2
          have e1 : xs[j]? = some xs[j] := by simp [g1']
          have e2 : ys[j]? = some ys[j] := by simp [g2']
          obtain ⟨w1, f1, m1⟩ := reps_get q1 e1
          obtain ⟨w2, f2, m2⟩ := reps_get q2 e2
          obtain ⟨z1, c1, b1⟩ := p1.get f1
          obtain ⟨z2, c2, b2⟩ := p2.get f2
          have y1 : is1.toArray[j] = z1 := by simpa [List.getElem?_eq_some_iff] using (List.getElem?_eq_some_iff.mp c1).2
          have y2 : is2.toArray[j] = z2 := by simpa [List.getElem?_eq_some_iff] using (List.getElem?_eq_some_iff.mp c2).2
          simp only [e1, e2]
          rw [y1, y2]
          exact (ih A.in1 _ _ w1 w2 z1 z2 (by show A.units + 1 + n + 1 < cLine; omega) (hc j _ _ e1 e2) m1 m2 b1 b2).eq
        unfold deq
        have same : l1 = l2 → deqs xs ys = true := fun e => by
          have z := same_D I sF (n + 1) (.tup xs) (.tup ys) (.ref l1) (by simp only [Cmp]; exact hc) (by simp only [Rep]; exact ⟨l1, vs, rfl, h1, q1⟩) (by simp only [Rep]; exact ⟨l2, us, by rw [e], h2, q2⟩)
          unfold deq at z; exact z
        have ev : ((List.range (min is1.toArray.size is2.toArray.size)).all (fun j => match xs[j]?, ys[j]? with | some a, some b => deq a b | _, _ => false) && is1.toArray.size == is2.toArray.size) = deqs xs ys := by
          have s1 : is1.toArray.size = xs.length := by simp [el1]
          have s2 : is2.toArray.size = ys.length := by simp [el2]
          rw [s1, s2]
          by_cases hl : xs.length = ys.length
          · rw [range_min _ hl]
            exact deqs_all hl _ fun i a b z1 z2 => by simp only [z1, z2]
          · rw [deqs_len hl, beq_false_of_ne hl, Bool.and_false]
        have rc := SeqAt.RcAt.tuples k1 k2 hu0 at_
        have rn := SeqAt.RcNeAt.tuples k1 k2 hu0 at_
        rw [ev] at rc rn
        refine ⟨?_, rc, rn⟩
        by_cases e : l1 = l2
        · rw [same e]; subst e; exact SeqAt.EqAt.same _
        · exact SeqAt.EqAt.of_refs e rc
      | lst ys =>
        simp only [Rep] at r'
        obtain ⟨l2, us, rfl, h2, q2⟩ := r'
        cases ru
        obtain ⟨is2, p2, k2', _⟩ := I.list (sF.seq h2)
        have k2 := k2'.isList
        exact ⟨SeqAt.EqAt.tuple_list k1 k2 hu0, SeqAt.RcAt.tuple_list k1 k2 hu0, SeqAt.RcNeAt.tuple_list k1 k2 hu0⟩
      | exc C =>
        exact False.elim (by simpa only [Cmp] using hc)
      | ptr _ =>
        exact False.elim (by simpa only [Cmp] using hc)
      | obj _ _ _ =>
        exact False.elim (by simpa only [Cmp] using hc)
      | dic _ _ =>
        exact False.elim (by simpa only [Cmp] using hc)
      | dit _ _ =>
        exact False.elim (by simpa only [Cmp] using hc)
    | lst xs =>
      simp only [Rep] at r
      obtain ⟨l1, vs, rfl, h1, q1⟩ := r
      cases rv
      obtain ⟨is1, p1, k1', _⟩ := I.list (sF.seq h1)
      have k1 := k1'.isList
      cases d' with
      | non =>
        simp only [Rep] at r'
        subst r'
        cases ru
        exact ⟨SeqAt.EqAt.list_none  k1 hu0, SeqAt.RcAt.list_none  k1 hu0, SeqAt.RcNeAt.list_none  k1 hu0⟩
      | bl x2 =>
        simp only [Rep] at r'
        subst r'
        cases ru
        exact ⟨SeqAt.EqAt.list_bool _ k1 hu0, SeqAt.RcAt.list_bool _ k1 hu0, SeqAt.RcNeAt.list_bool _ k1 hu0⟩
      | int x2 =>
        simp only [Rep] at r'
        subst r'
        obtain ⟨t2, rfl⟩ := ru
        exact ⟨SeqAt.EqAt.list_int _ _ k1 hu0, SeqAt.RcAt.list_int _ _ k1 hu0, SeqAt.RcNeAt.list_int _ _ k1 hu0⟩
      | str x2 =>
        simp only [Rep] at r'
        subst r'
        obtain ⟨t2, rfl⟩ := ru
        exact ⟨SeqAt.EqAt.list_str _ _ k1 hu0, SeqAt.RcAt.list_str _ _ k1 hu0, SeqAt.RcNeAt.list_str _ _ k1 hu0⟩
      | tup ys =>
        simp only [Rep] at r'
        obtain ⟨l2, us, rfl, h2, q2⟩ := r'
        cases ru
        obtain ⟨is2, p2, k2, _⟩ := I.tuple (sqT_mono sF h2)
        exact ⟨SeqAt.EqAt.list_tuple k1 k2 hu0, SeqAt.RcAt.list_tuple k1 k2 hu0, SeqAt.RcNeAt.list_tuple k1 k2 hu0⟩
      | lst ys =>
        simp only [Rep] at r'
        obtain ⟨l2, us, rfl, h2, q2⟩ := r'
        cases ru
        obtain ⟨is2, p2, k2', _⟩ := I.list (sF.seq h2)
        have k2 := k2'.isList
        simp only [Cmp] at hc
        have el1 : is1.length = xs.length := by rw [← p1.length, reps_len q1]
        have el2 : is2.length = ys.length := by rw [← p2.length, reps_len q2]
        have at_ : ∀ j (g1 : j < is1.toArray.size) (g2 : j < is2.toArray.size), SeqAt.EqAt A.in1 s is1.toArray[j] is2.toArray[j] ((fun j => match xs[j]?, ys[j]? with | some a, some b => deq a b | _, _ => false) j) := by
          intro j g1 g2
          have g1' : j < xs.length := by simpa [el1] using g1
          have g2' : j < ys.length := by simpa [el2] using g2
          have e1 : xs[j]? = some xs[j] := by simp [g1']
          have e2 : ys[j]? = some ys[j] := by simp [g2']
          obtain ⟨w1, f1, m1⟩ := reps_get q1 e1
          obtain ⟨w2, f2, m2⟩ := reps_get q2 e2
          obtain ⟨z1, c1, b1⟩ := p1.get f1
          obtain ⟨z2, c2, b2⟩ := p2.get f2
          have y1 : is1.toArray[j] = z1 := by simpa [List.getElem?_eq_some_iff] using (List.getElem?_eq_some_iff.mp c1).2
          have y2 : is2.toArray[j] = z2 := by simpa [List.getElem?_eq_some_iff] using (List.getElem?_eq_some_iff.mp c2).2
          simp only [e1, e2]
          rw [y1, y2]
          exact (ih A.in1 _ _ w1 w2 z1 z2 (by show A.units + 1 + n + 1 < cLine; omega) (hc j _ _ e1 e2) m1 m2 b1 b2).eq
        unfold deq
        have same : l1 = l2 → deqs xs ys = true := fun e => by
          have z := same_D I sF (n + 1) (.lst xs) (.lst ys) (.ref l1) (by simp only [Cmp]; exact hc) (by simp only [Rep]; exact ⟨l1, vs, rfl, h1, q1⟩) (by simp only [Rep]; exact ⟨l2, us, by rw [e], h2, q2⟩)
          unfold deq at z; exact z
        have rcn : SeqAt.RcAt A s (.ref l1) (.ref l2) (deqs xs ys) ∧ SeqAt.RcNeAt A s (.ref l1) (.ref l2) (!deqs xs ys) := by
          by_cases hl : xs.length = ys.length
          · have ev : (List.range is1.toArray.size).all (fun j => match xs[j]?, ys[j]? with | some a, some b => deq a b | _, _ => false) = deqs xs ys := by
              have s1 : is1.toArray.size = xs.length := by simp [el1]
              rw [s1]
              exact deqs_all hl _ fun i a b z1 z2 => by simp only [z1, z2]
            have hz : is1.toArray.size = is2.toArray.size := by simp [el1, el2, hl]
            have rc := SeqAt.RcAt.lists k1 k2 hz hu0 at_
            have rn := SeqAt.RcNeAt.lists k1 k2 hz hu0 at_
            rw [ev] at rc rn
            exact ⟨rc, rn⟩
          · have hz : (is1.toArray.size != is2.toArray.size) = true := by simp [el1, el2, hl]
            rw [deqs_len hl]
            exact ⟨SeqAt.RcAt.lists_lengths k1 k2 hz hu0, SeqAt.RcNeAt.lists_lengths k1 k2 hz hu0⟩
        obtain ⟨rc, rn⟩ := rcn
        refine ⟨?_, rc, rn⟩
        by_cases e : l1 = l2
        · rw [same e]; subst e; exact SeqAt.EqAt.same _
        · exact SeqAt.EqAt.of_refs e rc
      | exc C =>
        exact False.elim (by simpa only [Cmp] using hc)
      | ptr _ =>
        exact False.elim (by simpa only [Cmp] using hc)
      | obj _ _ _ =>
        exact False.elim (by simpa only [Cmp] using hc)
      | dic _ _ =>
        exact False.elim (by simpa only [Cmp] using hc)
      | dit _ _ =>
        exact False.elim (by simpa only [Cmp] using hc)
    | exc C => cases d' <;> exact False.elim (by simpa only [Cmp] using hc)
    | ptr _ => cases d' <;> exact False.elim (by simpa only [Cmp] using hc)
    | obj _ _ _ => cases d' <;> exact False.elim (by simpa only [Cmp] using hc)
    | dic _ _ => cases d' <;> exact False.elim (by simpa only [Cmp] using hc)
    | dit _ _ => cases d' <;> exact False.elim (by simpa only [Cmp] using hc)
def gEq : D → D → (D → Prop) → Prop := fun x y P => Cmp 20 x y ∧ P (.bl (deq x y))
def gNe : D → D → (D → Prop) → Prop := fun x y P => Cmp 20 x y ∧ P (.bl (!deq x y))
theorem o_eq (hu : X.A.units + 21 < cLine) : OpR X (compareOp .Eq) (rUp X.K gEq) := by
  intro pins s σ H x y u w Q I rx ry ⟨F, d1, d2, P, sF, r1, r2, h, k⟩
  exact (eq_D I sF 20 X.A d1 d2 x y u w hu h.1 r1 r2 rx ry).rc _ _ _ _ ⟨.bl _, H, I, rfl, k _ _ F H (Gr.refl sF) (by unfold Rep; rfl) h.2⟩
theorem o_ne (hu : X.A.units + 21 < cLine) : OpR X (compareOp .NotEq) (rUp X.K gNe) := by
  intro pins s σ H x y u w Q I rx ry ⟨F, d1, d2, P, sF, r1, r2, h, k⟩
  exact (eq_D I sF 20 X.A d1 d2 x y u w hu h.1 r1 r2 rx ry).ne _ _ _ _ ⟨.bl _, H, I, rfl, k _ _ F H (Gr.refl sF) (by unfold Rep; rfl) h.2⟩
end
end L3

namespace L3
open PySem PySem.Spec PyProof.Rows L2

def excSub (K : PySem.W.Frag) (C D : Addr) : Bool := match K.lookup C with
  | some ⟨_, _, .cls cd, _⟩ => cd.mro.contains (.ref D)
  | _ => false

theorem excC_sub {K : PySem.W.Frag} {h : Heap} {C : Addr} (X : K.In h) (q : ExcC K C) (D : Addr) {nm qn : Str} {N : Addr} {bs bm : List Value} {hdct : Bool} {sn : List Str} {sub : List Value} {ab : Bool} {col : Option Bool} {dd : Option Addr} {k0 k1 k2 k3 k5 : Option Value} {newId : String}
    (e : h.get? C = some (excClassObj nm qn C N bs bm hdct sn sub ab col dd k0 k1 k2 k3 k5 newId)) : (Value.ref C :: bm).contains (.ref D) = excSub K C D := by
  unfold ExcC PySem.W.excIn at q
  split at q
  · rename_i ho
    have z := X _ _ ho
    rw [e] at z
    unfold excSub
    rw [ho]
    unfold excClassObj at z
    cases z
    rfl
  · cases q

section
variable {M : Model} {A : Around} {E : Value → Shared → Prop} {h : Heap} {g : Array GenState} {d : Drawn} {t : Nat} {os : OsState}
  {nm q nm' q' : Str} {C N C' N' : Addr} {bs bm bs' bm' : List Value} {hdct hdct' : Bool} {sn sn' : List Str} {sub sub' : List Value} {ab ab' : Bool} {col col' : Option Bool} {dd dd' : Option Addr} {k0 k1 k2 k3 k5 j0 j1 j2 j3 j5 : Option Value} {newId newId' : String}
theorem exc_matches {a : Addr} {oe : Obj} {Q : Bool → Shared → Prop} (hC : h.get? C = some (excClassObj nm q C N bs bm hdct sn sub ab col dd k0 k1 k2 k3 k5 newId)) (hD : h.get? C' = some (excClassObj nm' q' C' N' bs' bm' hdct' sn' sub' ab' col' dd' j0 j1 j2 j3 j5 newId'))
    (he : h.get? a = some oe) (hcls : oe.cls = .ref C) (hbase : bm'.contains (.type "BaseException") = true) (hq : Q ((Value.ref C :: bm).contains (.ref C')) ⟨h, g, d, t, os⟩) : wpAny M A (excMatches (.ref a) (.ref C')) Q E ⟨h, g, d, t, os⟩ := by
  have cb : (Value.ref C' :: bm').contains (.type "BaseException") = true := by rw [List.contains_cons, hbase, Bool.or_true]
  have nt := tc_notTuple
  generalize hk : (Value.ref C :: bm).contains (.ref C') = k at hq
  unfold excMatches
  repeat (first | (with_reducible refine wpAny_loadPart_at he ?_; rw [hcls]) | with_reducible refine wpAny_loadPart_at hD ?_ | (with_reducible refine wpAny_isSubtype_exc hD ?_; rw [cb]) | (with_reducible refine wpAny_isSubtype_exc hC ?_; rw [hk]) | wp_step)
  cases k <;> (wp_walk; exact hq)
end

abbrev _root_.L2.Cx.hand (X : Cx) (a : Addr) : Cx := { X with A := X.A.mark (some (.ref a)), calm := false }
section
variable {X : Cx} {pins : List (Addr × Obj)} {σ : St} {H : Hp} {s : Shared} {a : Addr}
theorem ok_hand (ok : X.Ok) (a : Addr) : (X.hand a).Ok :=
  ⟨ok.mod, ok.kind, ok.glob, ok.blt, ok.above, ok.inj, ok.has, ok.cab, fun z => absurd z (by simp), ok.frames, ok.stk, ok.exf, ok.bs, ok.bsz, ok.noex, ok.exfs, ok.funs, ok.frf⟩
theorem inv_hand (I : Inv X pins σ H s) (a : Addr) : Inv (X.hand a) pins σ H s := ⟨ok_hand I.ok a, I.os, I.bare, I.base, I.loc, I.cell, I.free, I.freeC, I.pin, I.hok, I.len⟩
theorem ok_wsh (ok : X.Ok) (z : Wsh) : (X.wsh z).Ok := ⟨ok.mod, ok.kind, ok.glob, ok.blt, ok.above, ok.inj, ok.has, ok.cab, ok.hd, ok.frames, ok.stk, ok.exf, ok.bs, ok.bsz, ok.noex, ok.exfs, ok.funs, ok.frf⟩
theorem inv_pn {z : Wsh} {xe : Value → Shared → Prop} (I : Inv (X.wsh z) pins σ H s) : Inv (X.wsh ⟨xe, z.pn ++ pins⟩) [] σ H s :=
  ⟨ok_wsh I.ok _, I.os, I.bare, I.base, I.loc, I.cell, I.free, I.freeC, fun p hp => I.pin p (by simpa using hp), I.hok, I.len⟩
theorem inv_pn' {z : Wsh} {xe : Value → Shared → Prop} {pins' : List (Addr × Obj)} (I : Inv (X.wsh ⟨xe, z.pn ++ pins⟩) pins' σ H s) : Inv (X.wsh z) pins σ H s :=
  ⟨ok_wsh I.ok _, I.os, I.bare, I.base, I.loc, I.cell, I.free, I.freeC, fun p hp => I.pin p (List.mem_append_left _ hp), I.hok, I.len⟩
theorem sp_pn {z : Wsh} {xe : Value → Shared → Prop} {D : Ends} {f : Flow} {pins' : List (Addr × Obj)} (h : SP (X.wsh ⟨xe, z.pn ++ pins⟩) pins' D f s) : SP (X.wsh z) pins D f s := by
  cases f with
  | next => obtain ⟨σ', H', I, q⟩ := h; exact ⟨σ', H', inv_pn' I, q⟩
  | brk => obtain ⟨σ', H', I, q⟩ := h; exact ⟨σ', H', inv_pn' I, q⟩
  | cont => obtain ⟨σ', H', I, q⟩ := h; exact ⟨σ', H', inv_pn' I, q⟩
  | ret u => obtain ⟨v, σ', H', I, r, q⟩ := h; exact ⟨v, σ', H', inv_pn' I, r, q⟩
theorem inv_unhand {z : Wsh} {xe : Value → Shared → Prop} (ok : (X.wsh z).Ok) (I : Inv ((X.hand a).wsh ⟨xe, z.pn⟩) pins σ H s) : Inv (X.wsh z) pins σ H s :=
  ⟨ok, I.os, I.bare, I.base, I.loc, I.cell, I.free, I.freeC, I.pin, I.hok, I.len⟩
theorem sp_unhand {z : Wsh} {xe : Value → Shared → Prop} {D : Ends} {f : Flow} (ok : (X.wsh z).Ok) (h : SP ((X.hand a).wsh ⟨xe, z.pn⟩) pins D f s) : SP (X.wsh z) pins D f s := by
  cases f with
  | next => obtain ⟨σ', H', I, q⟩ := h; exact ⟨σ', H', inv_unhand ok I, q⟩
  | brk => obtain ⟨σ', H', I, q⟩ := h; exact ⟨σ', H', inv_unhand ok I, q⟩
  | cont => obtain ⟨σ', H', I, q⟩ := h; exact ⟨σ', H', inv_unhand ok I, q⟩
  | ret u => obtain ⟨v, σ', H', I, r, q⟩ := h; exact ⟨v, σ', H', inv_unhand ok I, r, q⟩
end

def noX : XW := fun _ _ => False
theorem EndR.base {K : PySem.W.Frag} {F0 H0 F H : Hp} {D2 : End2} {D : Ends} (k : EndR K F0 H0 F D2 D) (g : Gr F0 H0 F H) : EndR K F H0 F D2 D :=
  ⟨fun Γ F' H' σ R s h => k.nx Γ F' H' σ (R.unbase g) s h, fun Γ F' H' σ R s h => k.bk Γ F' H' σ (R.unbase g) s h, fun Γ F' H' σ R s h => k.ct Γ F' H' σ (R.unbase g) s h, fun d v F' H' gr r h => k.rt d v F' H' (g.unbase gr) r h, fun d v F' H' gr r h => k.rf d v F' H' (g.unbase gr) (rep_mono (lessL_anti g.f) d v r) h⟩
section
variable {X : Cx} {pins : List (Addr × Obj)} {σ : St} {H : Hp} {s : Shared}
theorem ctx_never {F0 H0 : Hp} {pn : List (Addr × Obj)} : Ctx (X.wsh ⟨fun _ _ => False, pn⟩) F0 H0 noX :=
  ⟨fun _ _ _ _ _ _ _ _ _ _ h => by obtain ⟨_, _, _, _, _, _, _, _, _, _, _, _, h, _⟩ := h; exact h.elim, PassesOwn.never⟩
theorem unbind_ok {M : Model} {A : Around} {E : Value → Shared → Prop} {Q : Unit → Shared → Prop} {i : Nat} {n : Str} {v : V} (I : Inv X pins σ H s) (hN : X.N.Nodup) (hi : X.N[i]? = some n) (hk : X.env.scope.names.lookup n = some .local) (hσ : σ[i]? = some (some v))
    (h : ∀ s', Inv X pins (σ.set i none) H s' → Q () s') : wpAny M A (unbindName X.env n) Q E s := by
  obtain ⟨m, hn, hl⟩ := id I.loc
  obtain ⟨u, r, l⟩ := hl i n v hi hσ (.inl hk)
  have hm : m n = some u := by
    rcases l with ⟨_, e⟩ | ⟨k, _⟩
    · exact e
    · have k' : X.env.scope.names.lookup n = some .cell ∨ X.env.scope.names.lookup n = some .free := k
      rw [hk] at k'
      rcases k' with k' | k' <;> cases k'
  have hcls : (X.env.scope.kind == .class || (X.env.scope.kind == .module && X.env.locals != X.env.globals)) = false := by rw [I.ok.kind]; rfl
  have hiσ : i < σ.length := (List.getElem?_eq_some_iff.mp hσ).1
  have cne := I.cne
  refine wpAny_unbindName_local hk hn hm hcls fun h' u' hn' hs => ?_
  have old : ∀ b o, X.s₀.heap.get? b = some o → b ≠ X.env.locals := fun b o e => Nat.ne_of_lt (Nat.lt_of_lt_of_le (Heap.lt_size e) I.ok.above)
  refine h _ ⟨I.ok, I.os, I.bare, ⟨fun b o e n hb hx => ?_, fun b o e n hb hx => ?_, I.base.free, fun b o e hx => ?_, I.base.tups, I.base.frzs, I.base.tbls⟩, ⟨_, hn', fun j y v' e1 e2 e3 => ?_⟩, fun y c e => ?_, I.free, I.freeC, fun p hp => ?_, fun b ob e => ?_, by simpa using I.len⟩
  · exact (hs.2 b (old b o e)).trans (I.base.keep b o e n hb hx)
  · obtain ⟨sl, e1⟩ := I.base.slot b o e n hb hx
    exact ⟨sl, (hs.2 b (old b o e)).trans e1⟩
  · obtain ⟨o', e1⟩ := I.base.there b o e hx
    exact ⟨o', (hs.2 b (old b o e)).trans e1⟩
  · have hj : i ≠ j := fun z => by
      subst z
      rw [List.getElem?_set_self hiσ] at e2; cases e2
    rw [List.getElem?_set_ne hj] at e2
    obtain ⟨w, r', q⟩ := hl j y v' e1 e2 e3
    refine ⟨w, r', ?_⟩
    rcases q with ⟨k, e⟩ | ⟨k, c, e, z⟩
    · refine .inl ⟨k, ?_⟩
      have : y ≠ n := fun e => hj (nodup_ix hN hi (e ▸ e1))
      simp [this, e]
    · exact .inr ⟨k, c, e, z.sameBut hs (cne y c e)⟩
  · obtain ⟨w', z⟩ := I.cell y c e
    exact ⟨w', z.sameBut hs (cne y c e)⟩
  · obtain ⟨e, n, ne, nf, d⟩ := I.pin p hp
    exact ⟨(hs.2 p.1 ne).trans e, n, ne, nf, d⟩
  · refine (I.hok b ob e).stay (fun c w' hc q => (hs.2 c ?_).trans q) (fun _ q => q) fun _ _ q => q
    rintro rfl
    rcases hc with z | hc
    · rw [← z, I.free] at e; cases e
    · rw [I.free] at hc; cases hc
end
def cTry (K : PySem.W.Frag) (Cd : Addr) (tb th : TS2) : TS2 := fun D Γ _ => tb D Γ fun Γ1 Cv => ∃ C, Cv = .ref C ∧ ExcC K C ∧ excSub K C Cd = true ∧ th D Γ1 noX
def cTryA (K : PySem.W.Frag) (Cd : Addr) (i : Nat) (tb th : TS2) : TS2 := fun D Γ _ => tb D Γ fun Γ1 Cv => ∃ C, Cv = .ref C ∧ ExcC K C ∧ excSub K C Cd = true ∧
  th { nx := fun Γ' => D.nx (Γ'.set i .no), rt := D.rt, bk := fun Γ' => D.bk (Γ'.set i .no), ct := fun Γ' => D.ct (Γ'.set i .no) } (Γ1.set i (.pu (.exc C))) noX
section
variable {X : Cx} {F0 H0 : Hp} {pos np hp : Pos} {x n : Str} {Cd : Addr} {body suite : List Stmt} {b₀ : Stmt} {tb th : TS2}
end
end L3

namespace L3
open PySem PySem.Spec PyProof.Rows L2

def cU (g : D → (D → Prop) → Prop) (ta : TE2) : TE2 := fun Γ P E => ta Γ (fun d Γ1 => g d fun d' => P d' Γ1) E
def gNeg : D → (D → Prop) → Prop := fun x P => match x with | .int i => P (.int (-i)) | _ => False
def rUpA (K : PySem.W.Frag) (g : List D → (D → Prop) → Prop) : List V → Hp → VK → Prop := fun vs H Q => ∃ F ds P, Same F H ∧ Reps K F ds vs ∧ g ds P ∧ ∀ d z F' H', Gr F H F' H' → Rep K F' d z → P d → Q z H'
def cCB (g : List D → (D → Prop) → Prop) (t : TF2) : TE2 := fun Γ P E => t Γ (fun ds Γ1 => g ds fun d => P d Γ1) E
def gIx : D → D → (D → Prop) → Prop := fun x y P => match x, y with
  | .lst xs, .int i => ∃ d, atI xs i = some d ∧ P d
  | .tup xs, .int i => ∃ d, atI xs i = some d ∧ P d
  | .str z, .int i => ∃ c, z.length ≤ sizeLine ∧ atI z.cps.toList i = some c ∧ P (.str ⟨#[c]⟩)
  | _, _ => False
theorem atI_reps {K : PySem.W.Frag} {F : Hp} {ds : List D} {vs : List V} {i : Int} {d : D} (r : Reps K F ds vs) (h : atI ds i = some d) : ∃ v, atI vs i = some v ∧ Rep K F d v := by
  unfold atI at h ⊢
  rw [← reps_len r]
  cases q : ixN ds.length i with
  | none => rw [q] at h; cases h
  | some j =>
    rw [q] at h
    exact reps_get r h
section
variable {X : Cx} {F0 H0 : Hp} {a b e : Expr} {es : List Expr} {pos p : Pos} {ta tb te : TE2} {t : TF2} {x : Str}
theorem qe_neg (ha : QE X F0 H0 a ta) : QE X F0 H0 (.UnaryOp .USub a pos) (cU gNeg ta) := fun z E cx =>
  peC (pe_un un_neg (ha z E cx)) fun σ H Q ⟨F, Γ, P, R, h, k⟩ => ⟨F, Γ, _, R, h, fun d Γ1 F1 H1 v R1 s1 r q => by
    cases d with
    | int i =>
      unfold Rep at r
      exact ⟨i, r, k _ _ _ _ _ R1 s1 (by unfold Rep; rfl) q⟩
    | _ => exact False.elim q⟩
theorem cCB_up {K : PySem.W.Frag} {g : List D → (D → Prop) → Prop} {E : XW} {σ : St} {H : Hp} {Q : VK} (h : upE K F0 H0 (cCB g t) E σ H Q) : tCB (rUpA K g) (upA K F0 H0 t E) σ H Q := by
  obtain ⟨F, Γ, P, R, h, k⟩ := h
  exact ⟨F, Γ, _, R, h, fun ds Γ1 F1 H1 vs R1 s1 r1 h1 => ⟨F1, ds, _, R1.g, r1, h1, fun d z F' H' gr rz hp => k d Γ1 F' H' z (R1.grow gr) (s1.trans gr.f) rz hp⟩⟩
theorem qe_callB {id : String} {g : List D → (D → Prop) → Prop} (hc : ∀ z, CallR (X.wsh z) (.builtin id) (rUpA X.K g)) (hg : Gl X x) (hm : X.mg x = none) (hv : bootBuiltins x = some (.builtin id)) (ha : QA X F0 H0 (e :: es) t) (hn : x ≠ "__name__" := by decide) (hdb : (x == ("__debug__" : Str)) = false := by decide)
    (he : starEach (e :: es) X.env = (false, eval e X.env) :: starEach es X.env := by rfl) (hpl : (backTo pos (starEach es X.env)).any (·.1) = false := by rfl) : QE X F0 H0 (.Call (.Name x p) (e :: es) [] pos) (cCB g t) := fun z E cx =>
  peC (pe_callB (X := X.wsh z) (hc z) hg hm hv (ha z E cx) hn hdb he hpl) fun _ _ _ h => cCB_up h
theorem qe_ix (ha : QE X F0 H0 a ta) (hb : QE X F0 H0 b tb) (hs : PlainIx b) : QE X F0 H0 (.Subscript a b pos) (cB gIx ta tb) := fun z E cx =>
  peC (pe_ix (X := X.wsh z) (r := rUp X.K gIx) (by
    intro value slice pins s σ H x y v u Q I rx ry ⟨F, d1, d2, P, sF, r1, r2, h, k⟩ hs
    unfold gIx at h
    split at h
    · unfold Rep at r1 r2
      obtain ⟨p, vs, rfl, hq, rs⟩ := r1
      subst r2
      obtain ⟨d, e, hp⟩ := h
      obtain ⟨w, ew, rw'⟩ := atI_reps rs e
      exact ix_list value slice pins s σ H _ _ v u Q I rx ry ⟨p, vs, _, w, rfl, rfl, sF.seq hq, ew, k _ _ F H (Gr.refl sF) rw' hp⟩ hs
    · unfold Rep at r1 r2
      obtain ⟨p, vs, rfl, hq, rs⟩ := r1
      subst r2
      obtain ⟨d, e, hp⟩ := h
      obtain ⟨w, ew, rw'⟩ := atI_reps rs e
      exact ix_tup value slice pins s σ H _ _ v u Q I rx ry ⟨p, vs, _, w, rfl, rfl, sqT_mono sF hq, ew, k _ _ F H (Gr.refl sF) rw' hp⟩ hs
    · unfold Rep at r1 r2
      subst r1 r2
      obtain ⟨c, hz, e, hp⟩ := h
      exact ix_str value slice pins s σ H _ _ v u Q I rx ry ⟨_, _, c, rfl, rfl, hz, e, k _ _ F H (Gr.refl sF) (by unfold Rep; rfl) hp⟩ hs
    · exact h.elim) (ha z E cx) (hb z E cx) hs) fun _ _ _ h => cB_up h
end

def u_abs : List D → (D → Prop) → Prop := fun ds P => match ds with | [.int i] => P (.int (if i < 0 then -i else i)) | _ => False
def u_len : List D → (D → Prop) → Prop := fun ds P => match ds with | [.lst xs] => P (.int xs.length) | [.tup xs] => P (.int xs.length) | [.str z] => z.length ≤ sizeLine ∧ P (.int z.length) | _ => False
def u_max : List D → (D → Prop) → Prop := fun ds P => match ds with | [.int i, .int j] => P (.int (if j > i then j else i)) | _ => False
def u_min : List D → (D → Prop) → Prop := fun ds P => match ds with | [.int i, .int j] => P (.int (if j < i then j else i)) | _ => False
section
variable {X : Cx}
theorem q_abs : CallR X (.builtin "abs") (rUpA X.K u_abs) := by
  intro pins s σ H xs us Q I r ⟨F, ds, P, sF, rs, h, k⟩
  unfold u_abs at h
  split at h
  · unfold Reps Reps Rep at rs
    obtain ⟨v, _, rfl, rfl, rfl⟩ := rs
    exact call_abs pins s σ H _ us Q I r ⟨_, rfl, k _ _ F H (Gr.refl sF) (by unfold Rep; rfl) h⟩
  · exact h.elim
theorem q_len : CallR X (.builtin "len") (rUpA X.K u_len) := by
  intro pins s σ H xs us Q I r ⟨F, ds, P, sF, rs, h, k⟩
  unfold u_len at h
  split at h
  · unfold Reps Reps Rep at rs
    obtain ⟨v, _, rfl, ⟨p, vs, rfl, hq, rs⟩, rfl⟩ := rs
    rw [reps_len rs] at h
    exact call_len_seq pins s σ H _ us Q I r ⟨p, vs, rfl, .inl (sF.seq hq), k _ _ F H (Gr.refl sF) (by unfold Rep; rfl) h⟩
  · unfold Reps Reps Rep at rs
    obtain ⟨v, _, rfl, ⟨p, vs, rfl, hq, rs⟩, rfl⟩ := rs
    rw [reps_len rs] at h
    exact call_len_seq pins s σ H _ us Q I r ⟨p, vs, rfl, .inr (sqT_mono sF hq), k _ _ F H (Gr.refl sF) (by unfold Rep; rfl) h⟩
  · unfold Reps Reps Rep at rs
    obtain ⟨v, _, rfl, rfl, rfl⟩ := rs
    exact call_len_str pins s σ H _ us Q I r ⟨_, rfl, h.1, k _ _ F H (Gr.refl sF) (by unfold Rep; rfl) h.2⟩
  · exact h.elim
end

def tyD : D → Option String
  | .non => some "NoneType" | .bl _ => some "bool" | .int _ => some "int" | .str _ => some "str" | .tup _ => some "tuple" | .lst _ => some "list" | .exc _ => none | .ptr _ => none | .obj _ _ _ => none | .dic _ _ => none | .dit _ _ => none
def isiB (d : D) (T : String) : Option Bool := (tyD d).bind fun S => PySem.W.kitOne [] (.type S) (.type T)
def cIsi (T : String) (ta : TE2) : TE2 := fun Γ P E => ta Γ (fun d Γ1 => match isiB d T with | some b => P (.bl b) Γ1 | none => False) E
section
variable {X : Cx} {pins : List (Addr × Obj)} {σ : St} {F H : Hp} {s : Shared}
end
section
variable {X : Cx} {F0 H0 : Hp} {a : Expr} {pos p pt : Pos} {ta : TE2} {x : Str} {T : String}
end

def cRaise (C : Addr) (t : TF2) : TS2 := fun _ Γ E => t Γ (fun ds Γ1 => ds.length ≤ sizeLine ∧ E Γ1 (.ref C)) E
section
variable {X : Cx} {F0 H0 : Hp} {e : Expr} {es : List Expr} {pos np cpos : Pos} {t : TF2} {x : Str} {C : Addr}
theorem qs_raise (hh : X.calm = true) (hg : Gl X x) (hm : X.mg x = some (.ref C)) (hC : ExcC X.K C) (ha : QA X F0 H0 (e :: es) t)
    (hd : (x == ("__debug__" : Str)) = false := by decide) (he : starEach (e :: es) X.env = (false, eval e X.env) :: starEach es X.env := by rfl) (hpl : (backTo cpos (starEach es X.env)).any (·.1) = false := by rfl) :
    QS X F0 H0 (.Raise (some (.Call (.Name x np) (e :: es) [] cpos)) none pos) (cRaise C t) := by
  intro z E cx pins s σ H D I ⟨F, Γ, D2, R, h, k⟩
  refine raise_ok (X := X.wsh z) (E := fun C' dx H1 => ∃ F1 Γ1, SR X.K F0 H0 F1 H1 σ Γ1 ∧ E Γ1 (.ref C)) hg hm hC (ha z E cx) hh I ⟨F, Γ, _, R, h, fun ds Γ1 F1 H1 vs R1 s1 r1 h1 => ⟨by rw [← reps_len r1]; exact h1.1, F1, Γ1, R1, h1.2⟩⟩ (fun H1 s1 e s' I1 hx => ?_) hd he hpl
  obtain ⟨a, C', H', B, h1, h2, h3, h4, h5, h6, h7, h8, rfl, h9, rfl, F1, Γ1, R1, hE⟩ := hx
  exact cx.px pins σ Γ1 F1 _ s1 e s' I1 R1 ⟨a, _, _, B, h1, h2, h3, h4, h5, h6, h7, h8, hE, rfl, .refl _⟩
end

structure Fn2 (P : Program) (w : World) (K : PySem.W.Frag) (mg : Str → Option Value) (base : Heap) (x : Str) (k : Nat) (ps : List Str) (sp : Sp2) : Prop where
  ex : ∃ f fd, FnOk P w K mg base (CX1 P w) k f fd ps (spUp K sp) ∧ mg x = some (.ref f) ∧ PySem.W.keepIn K (.ref f) = true ∧ Binds K fd ps []
section
variable {X : Cx} {F0 H0 : Hp} {e : Expr} {es : List Expr} {pos p : Pos} {x : Str} {ps : List Str} {k : Nat} {sp : Sp2} {t : TF2}
theorem qe_callF (G : Fn2 X.prog X.w X.K X.mg X.base x k ps sp) (hr : Room k X.A) (hg : Gl X x) (ha : QA X F0 H0 (e :: es) t) (hdb : (x == ("__debug__" : Str)) = false := by decide) (he : starEach (e :: es) X.env = (false, eval e X.env) :: starEach es X.env := by rfl) (hpl : (backTo pos (starEach es X.env)).any (·.1) = false := by rfl) :
    QE X F0 H0 (.Call (.Name x p) (e :: es) [] pos) (cCall sp t) := by
  obtain ⟨f, fd, h1, h2, h3, h4⟩ := G.ex
  exact qe_call h1 hr hg h2 h3 h4 ha hdb he hpl
end
end L3

namespace L3
open PySem PySem.Spec PyProof.Rows L2

section
variable {X : Cx} {pins : List (Addr × Obj)} {σ : St} {H : Hp} {s : Shared} {a : Addr} {o : HO}
theorem Inv.track (I : Inv X pins σ H s) (hn : H a = none) (ok : ObjOk X.prog X.w (L2.upd H a o) s.heap a o) (n0 : X.s₀.heap.get? a = none) (nl : a ≠ X.env.locals) (nc : ∀ x c, X.env.cells.lookup x = some c → c ≠ a) (np : ∀ p ∈ X.pn ++ pins, p.1 ≠ a) : Inv X pins σ (L2.upd H a o) s := by
  refine ⟨I.ok, I.os, I.bare, ⟨I.base.keep, I.base.slot, fun b u e n hx => ?_, I.base.there, fun b xs e => ?_, fun b u xs e => ?_, fun b ps e => ?_⟩, I.loc, I.cell, ?_, fun x c e => ?_, fun p hp => ?_, fun b u e => ?_, I.len⟩
  · rw [upd_ne (fun z => by rw [z, n0] at e; cases e)]; exact I.base.free b u e n hx
  · have q := I.base.tups b xs e
    rw [upd_ne (ne_of_none q hn)]; exact q
  · have q := I.base.frzs b u xs e
    rw [upd_ne (ne_of_none q hn)]; exact q
  · obtain ⟨m, q⟩ := I.base.tbls b ps e
    exact ⟨m, by rw [upd_ne (ne_of_none q hn)]; exact q⟩
  · rw [upd_ne (Ne.symm nl)]; exact I.free
  · rw [upd_ne (nc x c e)]; exact I.freeC x c e
  · obtain ⟨e, n, ne, nf, d⟩ := I.pin p hp
    exact ⟨e, by rw [upd_ne (np p hp)]; exact n, ne, nf, d⟩
  · by_cases hb : b = a
    · subst hb; rw [upd_same] at e; cases e; exact ok
    · rw [upd_ne hb] at e
      exact (I.hok b u e).stay (fun c v _ q => q) (fun c q => by rw [upd_ne (ne_of_none q hn)]; exact q) fun c xs q => by rw [upd_ne (ne_of_none q hn)]; exact q
end
section
variable {X : Cx} {F0 H0 : Hp} {pos np hp : Pos} {x n : Str} {Cd : Addr} {body suite : List Stmt} {b₀ : Stmt} {tb th : TS2} {i : Nat}
theorem qs_tryA (hex : X.ex = []) (hst : X.stack = X.env :: X.outer) (hfr : X.env.frame = some X.env.locals) (hN : X.N.Nodup) (hi : X.N[i]? = some n) (hl : X.env.scope.names.lookup n = some .local) (hg : Gl X x) (hm : X.mg x = some (.ref Cd)) (hC : ExcC X.K Cd) (hb : ∀ F, QSs X F H0 body tb)
    (hh : ∀ a F, QSs (X.hand a) F H0 (b₀ :: suite) th) (hd : (x == ("__debug__" : Str)) = false := by decide) : QS X F0 H0 (.Try body [.ExceptHandler (some (.Name x np)) (some n) (b₀ :: suite) hp] [] [] pos) (cTryA X.K Cd i tb th) := by
  intro z E cx pins s σ H D I ⟨F, Γ, D2, R, h, k⟩
  refine wpAny_Try_except ?_
  have key := hb F ⟨fun e s₁ => wpAny (model X.prog X.w) X.A (noteFrame e X.env) (fun _ s₂ => wpAny (model X.prog X.w) X.A (setFlight e none) (fun _ s₃ => wpAny (model X.prog X.w) X.A (handleBy e X.env [.ExceptHandler (some (.Name x np)) (some n) (b₀ :: suite) hp]) (SP (X.wsh z) pins D) z.xe s₃) z.xe s₂) z.xe s₁, z.pn ++ pins⟩
    (fun Γ1 Cv => ∃ C, Cv = .ref C ∧ ExcC X.K C ∧ excSub X.K C Cd = true ∧ th { nx := fun Γ' => D2.nx (Γ'.set i .no), rt := D2.rt, bk := fun Γ' => D2.bk (Γ'.set i .no), ct := fun Γ' => D2.ct (Γ'.set i .no) } (Γ1.set i (.pu (.exc C))) noX) ⟨?px, PassesOwn.looking⟩ [] s σ H D (inv_pn I) ⟨F, Γ, D2, R.base, h, k.base R.gr⟩
  · refine wpAny_mono key (fun f s1 q => ?_) fun _ _ q => q
    have q' := sp_pn q
    cases f with
    | next => exact wpAny_execs_nil q'
    | ret v => exact q'
    | brk => exact q'
    | cont => exact q'
  · intro pins' σ1 Γ1 F1 H1 s1 e s' I' R1 hx
    have I1 : Inv (X.wsh z) pins σ1 H1 s1 := inv_pn' I'
    obtain ⟨a, Cv, H', B, rfl, os, bare, un, hok, air, inB, trk, ⟨C, rfl, hCc, hsub, hth⟩, _, hS⟩ := hx
    show wpAny (model X.prog X.w) X.A (noteFrame (.ref a) X.env) _ _ _
    refine air_look (env := X.env) (outer := X.outer) (I1.ok.frames.trans (congrArg some hst)) hfr (by rw [← hst]; exact air) fun h4 a0 held up4 => ?_
    refine wpAny_landsW held fun h5 fl up5 => ?_
    have I5 : Inv (X.wsh z) pins σ1 H' { s' with heap := h5 } := Inv.landed (t' := s'.toks) I1 hex os bare un hok air.1 fl.1 inB trk (up4.trans up5)
    obtain ⟨ob, hob, hobc⟩ := fl.there
    refine wpAny_handleBy_cons (codeAny_handlers_test (ld_glob (X := (X.wsh z).hand a) (inv_hand I5 a) hg hm ?_ hd)) (by intro q; cases q)
    obtain ⟨bm, N, nm, qn, bs, hdct, sn, sub, ab, col, dd, k0, k1, k2, k3, k5, mN, e1, _, _, _⟩ := excC_obj I5.kIn hCc
    obtain ⟨bm', N', nm', qn', bs', hdct', sn', sub', ab', col', dd', j0, j1, j2, j3, j5, mN', e2, _, _, tl⟩ := excC_obj I5.kIn hC
    refine exc_matches e1 e2 hob hobc (tl.hasType PySem.F.excBase_ValueError.hasBase) ?_
    rw [excC_sub I5.kIn hCc Cd e1, hsub]
    refine codeAny_handlers_suite_as (lands_againW fl fun h6 fl6 up6 => ?_)
    have I6 : Inv (X.wsh z) pins σ1 H' { s' with heap := h6 } := Inv.landed (t' := s'.toks) I1 hex os bare un hok air.1 fl6.1 inB trk ((up4.trans up5).trans up6)
    obtain ⟨oe, vs, T, oT, ts, g1, g2, g3, _⟩ := fl6.2.2.2
    have nB : B.get? a = none := fl6.2.1
    have nH : H' a = none := by
      cases q : H' a with
      | none => rfl
      | some u => obtain ⟨o', e'⟩ := trk a u q; rw [nB] at e'; cases e'
    have nfs : a ∉ frs X.stack := fun hm => by
      obtain ⟨_, o2, e2, nf⟩ := I1.stack.mem hm
      obtain ⟨sl, e3⟩ := un.any e2 (I1.stkFree a hm) (by simp)
      obtain ⟨sl', e4⟩ := ((up4.trans up5).trans up6) a _ e3 nf
      rw [g1] at e4; cases e4
      exact nf _ g3
    have gone : ∀ o, s1.heap.get? a = some o → False := fun o e => by
      obtain ⟨o', e'⟩ := inB a o e nfs
      rw [nB] at e'; cases e'
    have none1 : s1.heap.get? a = none := by
      cases q : s1.heap.get? a with
      | none => rfl
      | some o => exact (gone o q).elim
    have none0 : X.s₀.heap.get? a = none := by
      cases q : X.s₀.heap.get? a with
      | none => rfl
      | some o =>
        obtain ⟨o', e'⟩ := I1.base.there a o q (by show a ∉ X.ex; rw [hex]; simp)
        rw [none1] at e'; cases e'
    have nloc : a ≠ X.env.locals := fun z => nfs (by rw [hst]; unfold frs; rw [List.filterMap_cons, hfr, z]; exact List.mem_cons_self)
    have ncell : ∀ x c, X.env.cells.lookup x = some c → c ≠ a := fun x c e z => by
      obtain ⟨v, o, ho, _⟩ := I1.cell x c e
      rw [z, none1] at ho; cases ho
    have npin : ∀ p ∈ z.pn ++ pins, p.1 ≠ a := fun p hp z => by
      have ho := (I1.pin p hp).1
      rw [z, none1] at ho; cases ho
    have IT : Inv (X.wsh z) pins σ1 (L2.upd H' a (excO a C)) { s' with heap := h6 } := Inv.track I6 nH ⟨⟨oe, vs, g1, g2.1, g3⟩, ⟨oe, g1⟩, fun h1 h2 ⟨o, ws, p1, p2, p3⟩ st => ⟨o, ws, st o p1, p2, p3⟩⟩ none0 nloc ncell npin
    have gr : Gr F1 H1 F1 H' := ⟨.refl _, R1.g.trans hS, hS, fun b o e n => by rw [e] at n; cases n⟩
    have gr2 : Gr F1 H1 (L2.upd F1 a (excO a C)) (L2.upd H' a (excO a C)) := gr.trans (Gr.laid (R1.grow gr).g nH)
    have IH : Inv ((X.wsh ⟨fun _ _ => False, z.pn⟩).hand a) pins σ1 (L2.upd H' a (excO a C)) { s' with heap := h6 } := inv_hand (X := X.wsh ⟨fun _ _ => False, z.pn⟩) ⟨ok_wsh IT.ok _, IT.os, IT.bare, IT.base, IT.loc, IT.cell, IT.free, IT.freeC, IT.pin, IT.hok, IT.len⟩ a
    have rp : Rep X.K (L2.upd F1 a (excO a C)) (.exc C) (.ref a) := by
      unfold Rep
      exact ⟨a, rfl, upd_same⟩
    refine store_ok (X := (X.wsh ⟨fun _ _ => False, z.pn⟩).hand a) IH hN hi (.inl hl) (show RelV (.ref a) (.ref a) from rfl) (fun s7 I7 => ?_) (.inr hl)
    have R7 := ((R1.grow gr2).set i rp)
    -- behind the suite the name is let go
    have fin : ∀ {σ2 : St} {H2 : Hp} {s2 : Shared} {Q2 : Shared → Prop}, Inv (X.wsh z) pins σ2 H2 s2 → σ2.length = X.N.length → (∀ s3, Inv (X.wsh z) pins (σ2.set i none) H2 s3 → Q2 s3) → wpAny (model X.prog X.w) X.A (do bindName X.env n .none; unbindBehindTheSuite X.env n hp) (fun _ s3 => Q2 s3) z.xe s2 := by
      intro σ2 H2 s2 Q2 I2 hlen hQ
      refine wpAny_bind (wpAny_bindName (store_ok (X := X.wsh z) I2 hN hi (.inl hl) (show RelV .non Value.none from rfl) (fun s3 I3 => ?_) (.inr hl)))
      unfold unbindBehindTheSuite
      refine wpAny_onRaise (unbind_ok (X := X.wsh z) I3 hN hi hl (v := .non) ?_ fun s4 I4 => ?_)
      · rw [List.getElem?_set_self (by rw [hlen]; exact (List.getElem?_eq_some_iff.mp hi).1)]
      · rw [List.set_set] at I4
        exact hQ s4 I4
    have kb := (k.base R.gr).mono R1.gr.f
    have run := hh a F ⟨fun _ _ => False, z.pn⟩ noX ctx_never pins s7 (σ1.set i (some (.ref a))) (L2.upd H' a (excO a C)) { nx := fun σ H => D.nx (σ.set i none) H, rt := D.rt, bk := fun σ H => D.bk (σ.set i none) H, ct := fun σ H => D.ct (σ.set i none) H } I7
      ⟨_, _, _, R7, hth, ⟨fun Γ' F' H' σ' R' s h => kb.nx _ _ _ _ (R'.drop i none) ((gr2.f).trans s) h, fun Γ' F' H' σ' R' s h => kb.bk _ _ _ _ (R'.drop i none) ((gr2.f).trans s) h, fun Γ' F' H' σ' R' s h => kb.ct _ _ _ _ (R'.drop i none) ((gr2.f).trans s) h, kb.rt, fun _ _ _ _ _ _ q => q.elim⟩⟩
    refine wpAny_mono run (fun f s2 q => ?_) fun _ _ q => q.elim
    have q' := sp_unhand I1.ok q
    cases f with
    | next => obtain ⟨σ', H', I2, q⟩ := q'; exact fin I2 I2.len fun s3 I3 => ⟨_, _, I3, q⟩
    | brk => obtain ⟨σ', H', I2, q⟩ := q'; exact fin I2 I2.len fun s3 I3 => ⟨_, _, I3, q⟩
    | cont => obtain ⟨σ', H', I2, q⟩ := q'; exact fin I2 I2.len fun s3 I3 => ⟨_, _, I3, q⟩
    | ret u => obtain ⟨v, σ', H', I2, r, q⟩ := q'; exact fin I2 I2.len fun s3 I3 => ⟨v, _, _, I3, r, q⟩
end

def sp_law0 : Sp2 := fun ds P _ => ∃ ns : List Int, ds = [.lst (ns.map .int)] ∧ ns.length ≤ 63 ∧ P (.bl true)
theorem reps_ints {K : PySem.W.Frag} {F : Hp} : ∀ ns : List Int, Reps K F (ns.map .int) (ns.map V.int)
  | [] => by unfold Reps; rfl
  | n :: ns => reps_cons (by unfold Rep; rfl) (reps_ints ns)
theorem law_start {K : PySem.W.Frag} {H : Hp} {a : Addr} {ns : List Int} (hl : ns.length ≤ 63) (hS : SqL K H a (ns.map V.int)) : spUp K sp_law0 [.ref a] H (fun v _ => v = .bl true) fun _ _ _ => False :=
  ⟨H, [.lst (ns.map .int)], fun d => d = .bl true, fun _ => False, .refl _, reps_one (by unfold Rep; exact ⟨a, _, rfl, hS, reps_ints ns⟩), ⟨ns, rfl, hl, rfl⟩, fun d v F' H' gr r h => by subst h; unfold Rep at r; exact r, fun _ _ h => h.elim⟩
theorem law_none {P : Program} {w : World} {H : Hp} {s : Shared} {e : Value} {s' : Shared} (h : CX1 P w [] H s (fun _ _ _ => False) e s') : False := by
  obtain ⟨_, _, _, _, _, _, _, _, _, _, _, _, h⟩ := h
  exact h
structure Cls where
  HallError : Addr := 0
  NoFraction : Addr := 0
  NoName : Addr := 0
  NoMark : Addr := 0
  Twice : Addr := 0
  Missing : Addr := 0
  NoAnswer : Addr := 0
  Few : Addr := 0
  Apart : Addr := 0
  NoScale : Addr := 0
  Barred : Addr := 0
  Open : Addr := 0
  NoWork : Addr := 0
  NoSitting : Addr := 0
  NoRow : Addr := 0
  Scale : Addr := 0
  Book : Addr := 0
  Sitting : Addr := 0
  Desk : Addr := 0
end L3

namespace L3
open PySem PySem.Spec PyProof.Rows L2

structure ExcG (K : PySem.W.Frag) (C : Addr) : Prop where
  ga : PySem.W.findIn K (.ref C) "__getattribute__" = some (some (.builtin "BaseException.__getattribute__"))
  gn : PySem.W.findIn K (.ref C) "__getattr__" = some none
  cl : PySem.W.findIn K (.ref C) "__class__" = some (some (.builtin "object.__class__"))
  ob : PySem.W.mroIn K C (.type "object") = some true
  be : PySem.W.mroIn K C (.type "BaseException") = some true

def cIsx (K : PySem.W.Frag) (C : Addr) (ta : TE2) : TE2 := fun Γ P E => ta Γ (fun d Γ1 => match d with | .exc C0 => (ExcC K C0 ∧ ExcG K C0) ∧ P (.bl (excSub K C0 C)) Γ1 | _ => False) E
section
open PySem.W PySem.Builtin PySem.Builtin.ObjectAttr PySem.Builtin.Getset_descriptor
variable {prog : Program} {w : World} {A : Around} {E : Value → Shared → Prop} {K : PySem.W.Frag} {h : Heap} {g : Array GenState} {d : Drawn} {t : Nat} {os : OsState} {a C : Addr} {o : Obj}
theorem exc_cls_get {tp : Value} {R : Result → Shared → Prop} (X : K.In h) (G : ExcG K C) (hx : h.get? a = some o) (hc : o.cls = .ref C) (hq : R (.ok (.ret (.ref C))) ⟨h, g, d, t, os⟩) :
    codeAny (model prog w) A (.call (.builtin "getset_descriptor.__get__") ⟨[.builtin "object.__class__", .ref a, tp], []⟩) R ⟨h, g, d, t, os⟩ := by
  have L0 : Looks (model prog w) h (typeOf (.ref a)) (.ref C) := hc ▸ (Looks.ld hx).andThen .now
  have L1 := looks_mroIn (M := model prog w) X G.ob
  refine codeAny_call_builtin KF.slot_gs.plain KF.entry_gs (KF.slot_gs.check _ _ _ _ _ _ _ _ KF.type_class (KF.args_gs _ _ _) ?_)
  unfold Builtin.«getset_descriptor.__get__» descrGet
  rw [dga_obj]
  refine wpAny_bind (wpAny_pure ?_)
  unfold descrGetter descrCheckInstance descrNameAndClass isInstance
  simp only [KF.owner_class]
  repeat lk
  refine ⟨Code.quiet_builtin _ (by decide +kernel), codeAny_builtin KF.entry_class ?_⟩
  unfold Builtin.«object.__class__» shownTypeOf
  repeat lk
  exact hq
theorem exc_cls_entry {tk : Tok} {Q : Fin → Shared → Prop} (X : K.In h) (G : ExcG K C) (hx : h.get? a = some o) (hc : o.cls = .ref C) (hq : Q (.done (.ret (.ref C))) ⟨h, g, d, t, os⟩) :
    wpAny (model prog w) A (Builtin.«object.__getattribute__» ⟨[.ref a, .str "__class__" tk], []⟩) Q E ⟨h, g, d, t, os⟩ := by
  have L0 : Looks (model prog w) h (typeOf (.ref a)) (.ref C) := hc ▸ (Looks.ld hx).andThen .now
  have L1 := looks_findIn (M := model prog w) X G.cl
  have f5 := KF.type_class
  have f6 := F.slot_gs_get.lookup
  have f7 := F.slot_gs_set.lookup
  have hT5 : (⟨h, g, d, t, os⟩ : Shared).TypeIs (.builtin "object.__class__") "getset_descriptor" := KF.type_class
  repeat (any_goals (first | assumption | (with_reducible refine wpAny_loadPart_at hx ?_; rw [hc]) | with_reducible refine L1.at ?_ | wp_step))
  refine exc_cls_get X G hx hc ?_
  repeat (any_goals (first | assumption | wp_step))
theorem exc_cls_check {M : Model} {nameV : Value} {Q : Unit → Shared → Prop} (X : K.In h) (G : ExcG K C) (hx : h.get? a = some o) (hc : o.cls = .ref C) (hq : Q () ⟨h, g, d, t, os⟩) : wpAny M A (checkBuiltinCall "BaseException.__getattribute__" ⟨[.ref a, nameV], []⟩) Q E ⟨h, g, d, t, os⟩ := by
  have hk : builtinKind "BaseException.__getattribute__" = some .slot := by decide +kernel
  have hsp : splitId "BaseException.__getattribute__" = some ("BaseException", "__getattribute__") := by decide +kernel
  have ha := F.args_bexc_ga (.ref a) nameV
  have L1 := looks_mroIn (M := M) X G.be
  simp only [checkBuiltinCall, hk, hsp]
  refine wpAny_bind ?_
  unfold isInstance
  repeat (first | (with_reducible refine wpAny_loadPart_at hx ?_; rw [hc]) | with_reducible refine L1.at ?_ | wp_step)
  exact hq
theorem exc_class {Q : Option Value → Shared → Prop} (X : K.In h) (G : ExcG K C) (hx : h.get? a = some o) (hc : o.cls = .ref C) (hq : Q (some (.ref C)) ⟨h, g, d, t + 1, os⟩) : wpAny (model prog w) A (getAttr? (.ref a) "__class__") Q E ⟨h, g, d, t, os⟩ := by
  have L0 : Looks (model prog w) h (typeOf (.ref a)) (.ref C) := hc ▸ (Looks.ld hx).andThen .now
  have L1 := looks_findIn (M := model prog w) X G.ga
  have L2' := looks_findIn (M := model prog w) X G.gn
  have b3 := PySem.F.excAttr_ValueError.ga.bind (.ref a)
  unfold getAttr? getAttrBy? getAttrBy
  refine wpAny_bind (wpAny_mkText (wpAny_bind (wpAny_attempt (wpAny_holding (wpAny_bind (L0.at (wpAny_bind (L1.at ?_))))))))
  have hx2 : (onTheHeap (Value.ref C) && Value.builtin "BaseException.__getattribute__" == Value.builtin "object.__getattribute__") = false := by
    rw [show (Value.builtin "BaseException.__getattribute__" == Value.builtin "object.__getattribute__") = false by decide +kernel, Bool.and_false]
  simp only [hx2, Bool.false_eq_true, if_false]
  unfold getAttrByItsOwn hookBefore callGetattribute
  simp only [show onTheHeap (Value.ref C) = true from rfl, if_true]
  refine wpAny_bind (L2'.at ?_)
  simp only [Bool.false_and, Bool.false_eq_true, if_false]
  unfold boundAndCalled
  refine wpAny_bind (wpAny_attempt (wpAny_holding (wpAny_bind (wpAny_of_eq b3 ?_))))
  refine wpAny_call (codeAny_call_builtin PySem.F.excAttr_ValueError.ga.plain F.entry_bexc_ga (exc_cls_check X G hx hc (exc_cls_entry X G hx hc ?_)))
  exact handed_on rfl (wpAny_pure hq)
theorem kitx_exc (q : ExcC K C) (G : ExcG K C) : KitX K (.ref a) (.ref C) (fun h => ∃ o, h.get? a = some o ∧ o.cls = .ref C) where
  ty := fun M h _ ⟨o, e, c⟩ => c ▸ (Looks.ld e).andThen .now
  it := fun M h X _ => by
    obtain ⟨bm, N, nm, qn, bs, hdct, sn, sub, ab, col, dd, k0, k1, k2, k3, k5, mN, e1, _⟩ := excC_obj X q
    intro A' Q' E' s' k hq
    unfold isType loadHead
    exact wpAny_bind (wpAny_loadPart (k _ _ e1) (wpAny_pure hq))
  ne := fun h tp dd its n sl X htp => by
    obtain ⟨bm, N, nm, qn, bs, hdct, sn, sub, ab, col, dd, k0, k1, k2, k3, k5, mN, e1, _⟩ := excC_obj X q
    refine Bool.eq_false_iff.mpr fun z => ?_
    have e : C = tp := Value.ref.inj (beq_iff_eq.mp z)
    subst e
    rw [e1] at htp
    unfold excClassObj at htp
    injection htp with htp
    have z2 := congrArg Obj.cls htp
    injection z2 with z2
    exact absurd z2 (by decide)
  ca := fun {prog w A E Q s} X ⟨o, e, c⟩ hq => by
    obtain ⟨h, g, d, t, os⟩ := s
    exact exc_class X G e c hq
def clsB (K : PySem.W.Frag) (C : Addr) : Bool := match K.lookup C with
  | some ⟨.type "type", _, .cls cd, _⟩ => (match cd.mro with | .ref C' :: _ => C' == C | _ => false)
  | _ => false
theorem clsB_look {B : Addr} (hB : clsB K B = true) : ∃ dd cd sl bm, K.lookup B = some ⟨.type "type", dd, .cls cd, sl⟩ ∧ cd.mro = .ref B :: bm := by
  unfold clsB at hB
  split at hB
  · rename_i dd cd sl ho
    split at hB
    · rename_i C' bm hm
      obtain rfl : C' = B := by simpa using hB
      exact ⟨dd, cd, sl, bm, ho, hm⟩
    · cases hB
  · cases hB
theorem clsB_exc {B : Addr} (hB : ExcC K B) : clsB K B = true := by
  unfold ExcC excIn at hB
  split at hB
  · rename_i dd cd sl ho
    split at hB
    · rename_i C' bm k0 k1 k2 k3 n k5 hm hs
      simp only [Bool.and_eq_true, beq_iff_eq] at hB
      obtain ⟨⟨⟨⟨⟨rfl, _⟩, _⟩, _⟩, _⟩, _⟩ := hB
      unfold clsB
      rw [ho]
      simp only [hm]
      exact beq_self_eq_true _
    · cases hB
  · cases hB
theorem kit_exc {D : Addr} (q : ExcC K C) (qd : clsB K D = true) : kitOne K (.ref C) (.ref D) = some (excSub K C D) := by
  obtain ⟨dd, cd, sl, bm, e1, e2⟩ := clsB_look (clsB_exc q)
  obtain ⟨dd', cd', sl', bm', e3, e4⟩ := clsB_look qd
  have es : excSub K C D = cd.mro.contains (.ref D) := by unfold excSub; rw [e1]
  unfold kitOne
  by_cases h : C = D
  · subst h
    rw [if_pos (by simp), es, e2]
    simp
  · rw [if_neg (by simpa using h)]
    unfold kitCls
    have c1 : clsIn K D = some cd' := by unfold clsIn; rw [e3]
    have c2 : typeIn K (.ref D) = some (.type "type") := by show (K.lookup D).map (fun x => x.cls) = _; rw [e3]; rfl
    have c3 : clsIn K C = some cd := by unfold clsIn; rw [e1]
    simp only [c1, c2, Option.isSome_some, Bool.true_and, beq_self_eq_true, if_true]
    show ((clsIn K C).bind fun cd => if cd.mro.isEmpty = true then none else some (cd.mro.contains (Value.ref D))) = _
    rw [c3, es]
    simp only [Option.bind_some]
    rw [e2]
    simp
end
section
variable {X : Cx} {F0 H0 : Hp} {a : Expr} {pos p pt : Pos} {ta : TE2} {x : Str} {C : Addr}
theorem qe_isx (ha : QE X F0 H0 a ta) (hg : Gl X "isinstance") (hm : X.mg "isinstance" = none) (hgT : Gl X x) (hT : X.mg x = some (.ref C) ∧ clsB X.K C = true) (hd : (x == ("__debug__" : Str)) = false := by decide)
    (he : starEach [a, .Name x pt] X.env = (false, eval a X.env) :: starEach [.Name x pt] X.env := by rfl) (he2 : starEach [.Name x pt] X.env = [(false, eval (.Name x pt) X.env)] := by rfl) : QE X F0 H0 (.Call (.Name "isinstance" p) [a, .Name x pt] [] pos) (cIsx X.K C ta) := fun z E cx => by
  have pT : PE (X.wsh z) (.Name x pt) (tC (.ref C)) := pe_glob (X := X.wsh z) hgT hT.1 rfl hd
  refine peC (pe_callB (X := X.wsh z) (id := "isinstance") (r := fun vs H Q => ∃ (F : Hp) (C0 : Addr) (x : V) (P : Bool → Prop), vs = [x, .ref C] ∧ Same F H ∧ Rep X.K F (.exc C0) x ∧ (ExcC X.K C0 ∧ ExcG X.K C0) ∧ P (excSub X.K C0 C) ∧ ∀ b, P b → Q (.bl b) H) ?_ hg hm boot_isinstance (pa_cons (ha z E cx) (pa_cons pT pa_nil (by rw [he2]; rfl)) he) (by decide) (by decide) he (by rw [he2]; rfl)) fun σ H Q ⟨F, Γ, P, R, h, k⟩ => ?_
  · intro pins s σ H xs us Q I r ⟨F, C0, y, P, e1, sF, rd, hx, hb, k⟩
    subst e1
    obtain ⟨u, w, rfl, ru, rw'⟩ := vals2 r
    obtain rfl : w = Value.ref C := rw'
    unfold Rep at rd
    obtain ⟨b, rfl, eb⟩ := rd
    cases ru
    obtain ⟨⟨o, vs, g1, g2, _⟩, _⟩ := I.hok b _ (sF _ _ eb)
    exact PySem.W.kia_one (kitx_exc hx.1 hx.2) I.kIn ⟨o, g1, g2⟩ (kit_exc hx.1 hT.2) (fun z => nomatch z) fun tk => ⟨.bl _, H, I.tok tk, rfl, k _ hb⟩
  · refine ⟨F, Γ, _, R, h, fun d Γ1 F1 H1 v R1 s1 r1 h1 => ?_⟩
    cases d with
    | exc C0 => exact ⟨F1, C0, v, fun b => P (.bl b) Γ1, rfl, R1.g, r1, h1.1, h1.2, fun b hp => k _ _ _ _ _ R1 s1 (by unfold Rep; rfl) hp⟩
    | _ => exact False.elim h1
end
end L3

namespace L3
open PySem PySem.Spec PyProof.Rows L2

theorem cf_old {x : Str} : ∀ (names : List (Str × NameKind)) (n : Nat) (acc : List (Str × Addr)), (∀ p ∈ names, p.2 = .cell → p.1 ≠ x) → (cellsFrom n names acc).lookup x = acc.lookup x
  | [], _, _, _ => rfl
  | (y, k) :: r, n, acc, h => by
    unfold cellsFrom
    have hr : ∀ p ∈ r, p.2 = .cell → p.1 ≠ x := fun p hp => h p (List.mem_cons_of_mem _ hp)
    split
    · rename_i hk
      have hy : y ≠ x := h (y, k) List.mem_cons_self (by simpa using hk)
      rw [cf_old r _ _ hr, List.lookup_cons]
      have : (x == y) = false := by rw [beq_eq_false_iff_ne]; exact Ne.symm hy
      rw [this]
    · exact cf_old r _ _ hr
theorem cf_mem {x : Str} {c : Addr} : ∀ (names : List (Str × NameKind)) (h : Heap) (acc : List (Str × Addr)), (x, c) ∈ cellsFrom h.objs.size names acc → (x, c) ∈ acc ∨ (h.objs.size ≤ c ∧ (pushCells h names).IsCell c none ∧ (x, NameKind.cell) ∈ names)
  | [], _, _, m => .inl m
  | (y, k) :: r, h, acc, m => by
    unfold cellsFrom at m
    unfold pushCells
    split at m
    · rename_i hk
      rw [if_pos hk]
      have sz : (h.push { cls := .type "cell", data := .cell none }).objs.size = h.objs.size + 1 := Heap.size_push ..
      rw [← sz] at m
      rcases cf_mem r _ _ m with z | ⟨z1, z2, z3⟩
      · rcases List.mem_cons.mp z with e | z
        · cases e
          have e2 : k = .cell := by simpa using hk
          subst e2
          refine .inr ⟨Nat.le_refl _, ?_, List.mem_cons_self⟩
          exact ⟨_, pushCells_keeps r _ _ _ (Heap.get?_push_size _ rfl), rfl⟩
        · exact .inl z
      · exact .inr ⟨by rw [sz] at z1; omega, z2, List.mem_cons_of_mem _ z3⟩
    · rename_i hk
      rw [if_neg hk]
      rcases cf_mem r h acc m with z | ⟨z1, z2, z3⟩
      · exact .inl z
      · exact .inr ⟨z1, z2, List.mem_cons_of_mem _ z3⟩
theorem cf_apart : ∀ (names : List (Str × NameKind)) (n : Nat) (acc : List (Str × Addr)), (acc.Pairwise fun x y => x.2 ≠ y.2) → (∀ p ∈ acc, p.2 < n) → (cellsFrom n names acc).Pairwise fun x y => x.2 ≠ y.2
  | [], _, _, h, _ => h
  | (y, k) :: r, n, acc, h, hl => by
    unfold cellsFrom
    split
    · refine cf_apart r _ _ (List.pairwise_cons.mpr ⟨fun p hp e => ?_, h⟩) fun p hp => ?_
      · have e' : n = p.2 := e
        exact Nat.lt_irrefl _ (Nat.lt_of_lt_of_eq (hl p hp) e')
      · rcases List.mem_cons.mp hp with rfl | hp
        · exact Nat.lt_succ_self _
        · exact Nat.lt_succ_of_lt (hl p hp)
    · exact cf_apart r n acc h hl
def clOf (env : Env) : List (Str × NameKind) → List (Str × Addr) → List (Str × Addr)
  | [], cs => cs
  | (n, k) :: r, cs => clOf env r (if k == .free then (n, (env.cells.lookup n).getD 0) :: cs else cs)
theorem clos_ok {scope : Scope} {env : Env} (h : ∀ p ∈ scope.names, p.2 = .free → ∃ c, env.cells.lookup p.1 = some c) : closureFor scope env = pure (clOf env scope.names []) := by
  have key : ∀ (names : List (Str × NameKind)) (cs : List (Str × Addr)), (∀ p ∈ names, p.2 = .free → ∃ c, env.cells.lookup p.1 = some c) →
      (forIn names cs fun (x : Str × NameKind) (r : List (Str × Addr)) => (if x.2 == .free then do let a ← cellOf env x.1; pure (ForInStep.yield ((x.1, a) :: r)) else pure (ForInStep.yield r) : Sem _)) = pure (clOf env names cs) := by
    intro names
    induction names with
    | nil => intro cs _; rfl
    | cons p r ih =>
      intro cs hh
      obtain ⟨n, k⟩ := p
      have hr : ∀ p ∈ r, p.2 = .free → ∃ c, env.cells.lookup p.1 = some c := fun p hp => hh p (List.mem_cons_of_mem _ hp)
      rw [List.forIn_cons]
      unfold clOf
      by_cases hk : (k == NameKind.free) = true
      · obtain ⟨c, e⟩ := hh (n, k) List.mem_cons_self (by simpa using hk)
        have e' : cellOf env n = pure c := by unfold cellOf; rw [e]
        simp only [hk, if_true, e', pure_bind, e, Option.getD_some]
        exact ih _ hr
      · have hk' : (k == NameKind.free) = false := by simpa using hk
        simp only [hk', Bool.false_eq_true, if_false, pure_bind]
        exact ih _ hr
  unfold closureFor
  have := key scope.names [] h
  simpa using this
theorem clOf_mem {env : Env} {x : Str} {c : Addr} : ∀ (names : List (Str × NameKind)) (cs : List (Str × Addr)), (∀ p ∈ names, p.2 = .free → ∃ c, env.cells.lookup p.1 = some c) → (x, c) ∈ clOf env names cs → (x, c) ∈ cs ∨ ((x, NameKind.free) ∈ names ∧ env.cells.lookup x = some c)
  | [], _, _, m => .inl m
  | (n, k) :: r, cs, hh, m => by
    unfold clOf at m
    have hr : ∀ p ∈ r, p.2 = .free → ∃ c, env.cells.lookup p.1 = some c := fun p hp => hh p (List.mem_cons_of_mem _ hp)
    rcases clOf_mem r _ hr m with z | ⟨z1, z2⟩
    · split at z
      · rename_i hk
        rcases List.mem_cons.mp z with e | z
        · cases e
          have e2 : k = .free := by simpa using hk
          subst e2
          obtain ⟨c, e⟩ := hh (_, .free) List.mem_cons_self rfl
          refine .inr ⟨List.mem_cons_self, ?_⟩
          have e' : env.cells.lookup x = some c := e
          rw [e']; rfl
        · exact .inl z
      · exact .inl z
    · exact .inr ⟨List.mem_cons_of_mem _ z1, z2⟩
theorem clOf_get {env : Env} {x : Str} {c : Addr} (e : env.cells.lookup x = some c) : ∀ (names : List (Str × NameKind)) (cs : List (Str × Addr)), ((x, NameKind.free) ∈ names ∨ cs.lookup x = some c) → (∀ c', cs.lookup x = some c' → c' = c) → (clOf env names cs).lookup x = some c
  | [], cs, h, _ => by
    rcases h with h | h
    · cases h
    · exact h
  | (n, k) :: r, cs, h, hu => by
    unfold clOf
    by_cases hk : (k == NameKind.free) = true
    · rw [if_pos hk]
      by_cases hn : x = n
      · subst hn
        refine clOf_get e r _ (.inr ?_) fun c' q => ?_
        · rw [List.lookup_cons]; simp [e]
        · rw [List.lookup_cons] at q; simp [e] at q; exact q.symm
      · have hb : (x == n) = false := by rw [beq_eq_false_iff_ne]; exact hn
        refine clOf_get e r _ ?_ fun c' q => ?_
        · rcases h with h | h
          · rcases List.mem_cons.mp h with z | z
            · cases z; exact absurd rfl hn
            · exact .inl z
          · refine .inr ?_
            rw [List.lookup_cons, hb]; exact h
        · rw [List.lookup_cons, hb] at q; exact hu c' q
    · rw [if_neg hk]
      refine clOf_get e r cs ?_ hu
      rcases h with h | h
      · rcases List.mem_cons.mp h with z | z
        · cases z; exact absurd rfl hk
        · exact .inl z
      · exact .inr h
theorem clOf_apart {env : Env} (inj : ∀ x y c, env.cells.lookup x = some c → env.cells.lookup y = some c → x = y) : ∀ (names : List (Str × NameKind)) (cs : List (Str × Addr)), (names.map (·.1)).Nodup → (∀ p ∈ names, p.2 = .free → ∃ c, env.cells.lookup p.1 = some c) →
    (cs.Pairwise fun x y => x.2 ≠ y.2) → (∀ p ∈ cs, env.cells.lookup p.1 = some p.2 ∧ p.1 ∉ names.map (·.1)) → (clOf env names cs).Pairwise fun x y => x.2 ≠ y.2
  | [], _, _, _, h, _ => h
  | (n, k) :: r, cs, nd, hh, h, hc => by
    unfold clOf
    rw [List.map_cons, List.nodup_cons] at nd
    have hr : ∀ p ∈ r, p.2 = .free → ∃ c, env.cells.lookup p.1 = some c := fun p hp => hh p (List.mem_cons_of_mem _ hp)
    have hc' : ∀ p ∈ cs, env.cells.lookup p.1 = some p.2 ∧ p.1 ∉ r.map (·.1) := fun p hp => ⟨(hc p hp).1, fun z => (hc p hp).2 (by rw [List.map_cons]; exact List.mem_cons_of_mem _ z)⟩
    by_cases hk : (k == NameKind.free) = true
    · rw [if_pos hk]
      obtain ⟨c, e⟩ := hh (n, k) List.mem_cons_self (by simpa using hk)
      have e' : env.cells.lookup n = some c := e
      rw [e']
      refine clOf_apart inj r _ nd.2 hr (List.pairwise_cons.mpr ⟨fun p hp z => ?_, h⟩) fun p hp => ?_
      · have z' : c = p.2 := z
        have q := (hc p hp).1
        rw [← z'] at q
        have := inj _ _ _ e' q
        exact (hc p hp).2 (by rw [List.map_cons, ← this]; exact List.mem_cons_self)
      · rcases List.mem_cons.mp hp with rfl | hp
        · exact ⟨e', nd.1⟩
        · exact hc' p hp
    · rw [if_neg hk]
      exact clOf_apart inj r cs nd.2 hr h hc'
theorem relabel_look {scope : Scope} {env : Env} {x : Str} : ∀ (names : List (Str × NameKind)) {k : NameKind}, names.lookup x = some k → (names.map fun (n, k) => if (k == NameKind.free && env.scope.kind == .function && env.kindOf n == some .cell) then (n, NameKind.cell) else (n, k)).lookup x = some k ∨
      (k = .free ∧ (names.map fun (n, k) => if (k == NameKind.free && env.scope.kind == .function && env.kindOf n == some .cell) then (n, NameKind.cell) else (n, k)).lookup x = some .cell)
  | [], _, h => by simp at h
  | (n, k0) :: r, k, h => by
    have ih := @relabel_look scope env x r k
    show List.lookup x ((if (k0 == NameKind.free && env.scope.kind == .function && env.kindOf n == some .cell) = true then (n, NameKind.cell) else (n, k0)) :: _) = _ ∨ (_ ∧ List.lookup x ((if (k0 == NameKind.free && env.scope.kind == .function && env.kindOf n == some .cell) = true then (n, NameKind.cell) else (n, k0)) :: _) = _)
    cases hx : x == n with
    | true =>
      simp only [List.lookup_cons, hx] at h
      cases h
      by_cases hc : (k0 == NameKind.free && env.scope.kind == .function && env.kindOf n == some .cell) = true
      · rw [if_pos hc]
        simp only [Bool.and_eq_true] at hc
        exact .inr ⟨by simpa using hc.1.1, by simp only [List.lookup_cons, hx]⟩
      · rw [if_neg hc]
        exact .inl (by simp only [List.lookup_cons, hx])
    | false =>
      simp only [List.lookup_cons, hx] at h
      by_cases hc : (k0 == NameKind.free && env.scope.kind == .function && env.kindOf n == some .cell) = true
      · rw [if_pos hc]; simp only [List.lookup_cons, hx]; exact ih h
      · rw [if_neg hc]; simp only [List.lookup_cons, hx]; exact ih h
end L3

namespace L3
open PySem PySem.Spec PyProof.Rows L2

def blkEnv (scope : Scope) (C : Addr) (env : Env) : Env :=
  { scope := relabel scope env, locals := C, globals := env.globals, cells := cellsFrom (C + 1) scope.names (clOf env scope.names []), qual := env.qual, func := none, code := env.code, frame := env.frame, builtins := env.builtins }
def blk (X : Cx) (scope : Scope) (N : List Str) (C : Addr) (s₀ : Shared) (H₀ : Hp) (fp : List Addr) : Cx :=
  { X with env := blkEnv scope C X.env, N := N, s₀ := s₀, H₀ := H₀, outer := X.stack, stack := X.stack, ex := fp, fn := fun x => scope.names.lookup x == some .cell, pn := [], xe := fun _ _ => False }
def mkσ (own : Nat) (caps : List Nat) (σ : St) : St := List.replicate own none ++ caps.map fun j => (σ[j]?).join
structure CpScope (N : List Str) (sc : Scope) (own : List Str) (caps : List Nat) (env : Env) (N' : List Str) : Prop where
  kind : sc.kind = .function
  nd : N'.Nodup
  snd : (sc.names.map (·.1)).Nodup
  free : ∀ p ∈ sc.names, p.2 = .free → env.kindOf p.1 = some .cell ∨ env.kindOf p.1 = some .free
  names : N' = own ++ caps.map fun j => N.getD j ""
  caps : ∀ j ∈ caps, j < N.length ∧ sc.names.lookup (N.getD j "") = some .free

theorem new_block {M : Model} {A : Around} {E : Value → Shared → Prop} {s : Shared} {scope : Scope} {g : Addr} {cl : List (Str × Addr)} {q : Str} {env : Env} {Q : Env → Shared → Prop} 
    (hQ : Q (newEnv scope s.heap.objs.size g (cellsFrom (s.heap.objs.size + 1) scope.names cl) q none .none (some env) builtinsNs) { s with heap := pushCells (s.heap.push { cls := .type "dict", data := .dict #[] }) scope.names }) :
    wpAny M A (newFunctionEnv scope g cl [] q none .none (some env)) Q E s := by
  simp only [newFunctionEnv, Option.isSome_some, if_true]
  refine wpAny_bind (wpAny_alloc ?_)
  refine wpAny_bind (wpAny_layCells _ (fun name kind cells => by cases hkc : kind == NameKind.cell <;> simp [hkc]) _ _ _ _ ?_)
  rw [show ({ s with heap := s.heap.push { cls := .type "dict", data := .dict #[] } } : Shared).heap.objs.size = s.heap.objs.size + 1 from Heap.size_push ..]
  simp only [List.forIn_nil]
  exact wpAny_bind (wpAny_pure (wpAny_pure hQ))

section
variable {X : Cx} {pins : List (Addr × Obj)} {σ : St} {H : Hp} {s : Shared} {sc : Scope} {own : List Str} {caps : List Nat} {N' : List Str} {fp : List Addr}
theorem free_has (I : Inv X pins σ H s) (S : CpScope X.N sc own caps X.env N') : ∀ p ∈ sc.names, p.2 = .free → ∃ c, X.env.cells.lookup p.1 = some c := fun p hp hk => I.ok.has _ (S.free p hp hk)
theorem blk_cells (I : Inv X pins σ H s) (S : CpScope X.N sc own caps X.env N') {x : Str} {c : Addr} (e : (blkEnv sc s.heap.objs.size X.env).cells.lookup x = some c) :
    (X.env.cells.lookup x = some c ∧ c < s.heap.objs.size ∧ sc.names.lookup x ≠ some .cell) ∨ (s.heap.objs.size + 1 ≤ c ∧ (pushCells (s.heap.push { cls := .type "dict", data := .dict #[] }) sc.names).IsCell c none) := by
  have m := mem_of_lookup e
  have sz : (s.heap.push { cls := .type "dict", data := .dict #[] }).objs.size = s.heap.objs.size + 1 := Heap.size_push ..
  have m' : (x, c) ∈ cellsFrom (s.heap.push { cls := .type "dict", data := .dict #[] }).objs.size sc.names (clOf X.env sc.names []) := by rw [sz]; exact m
  rcases cf_mem sc.names _ _ m' with z | ⟨z1, z2, z3⟩
  · rcases clOf_mem sc.names [] (free_has I S) z with z | ⟨z1, z2⟩
    · cases z
    · obtain ⟨v, hc⟩ := I.cell x c z2
      refine .inl ⟨z2, hc.lt, fun q => ?_⟩
      have q' := mem_of_lookup q
      have := S.snd
      rw [List.Nodup, List.pairwise_map] at this
      have d : ∀ (l : List (Str × NameKind)), (l.Pairwise fun a b => a.1 ≠ b.1) → (x, NameKind.free) ∈ l → (x, NameKind.cell) ∈ l → False := by
        intro l
        induction l with
        | nil => intro _ h; cases h
        | cons a r ih =>
          intro hp h1 h2
          obtain ⟨p1, p2⟩ := List.pairwise_cons.mp hp
          rcases List.mem_cons.mp h1 with e1 | h1 <;> rcases List.mem_cons.mp h2 with e2 | h2
          · rw [← e1] at e2; cases e2
          · exact p1 _ h2 (by rw [← e1])
          · exact p1 _ h1 (by rw [← e2])
          · exact ih p2 h1 h2
      exact d _ this z1 q'
  · exact .inr ⟨by rw [sz] at z1; exact z1, z2⟩
theorem blk_cap (I : Inv X pins σ H s) (S : CpScope X.N sc own caps X.env N') {x : Str} {c : Addr} (hk : sc.names.lookup x = some .free) (e : X.env.cells.lookup x = some c) : (blkEnv sc s.heap.objs.size X.env).cells.lookup x = some c := by
  show (cellsFrom _ sc.names (clOf X.env sc.names [])).lookup x = some c
  rw [cf_old]
  · exact clOf_get e _ _ (.inl (mem_of_lookup hk)) fun c' q => by cases q
  · intro p hp hc z
    have q := mem_of_lookup hk
    have := S.snd
    rw [List.Nodup, List.pairwise_map] at this
    have d : ∀ (l : List (Str × NameKind)), (l.Pairwise fun a b => a.1 ≠ b.1) → (x, NameKind.free) ∈ l → p ∈ l → False := by
      intro l
      induction l with
      | nil => intro _ h; cases h
      | cons a r ih =>
        intro hpw h1 h2
        obtain ⟨p1, p2⟩ := List.pairwise_cons.mp hpw
        rcases List.mem_cons.mp h1 with e1 | h1 <;> rcases List.mem_cons.mp h2 with e2 | h2
        · rw [← e1] at e2; subst e2; cases hc
        · exact p1 _ h2 (by rw [← e1]; exact z.symm)
        · exact p1 _ h1 (by rw [← e2]; exact z)
        · exact ih p2 h1 h2
    exact d _ this q hp
theorem blk_look (I : Inv X pins σ H s) (S : CpScope X.N sc own caps X.env N') {h' : Heap} (keepc : ∀ x c v, X.env.cells.lookup x = some c → s.heap.IsCell c v → h'.IsCell c v) {m' : Str → Option Value} (i : Nat) (x : Str) (v : V) (h1 : N'[i]? = some x) (h2 : (mkσ own.length caps σ)[i]? = some (some v)) :
    ∃ u, RelV v u ∧ Look (blkEnv sc s.heap.objs.size X.env) h' m' x u := by
  have h2' : (mkσ own.length caps σ)[i]? = some (some v) := h2
  have h1' : N'[i]? = some x := h1
  unfold mkσ at h2'
  rw [S.names] at h1'
  by_cases hi : i < own.length
  · rw [List.getElem?_append_left (by simpa using hi), List.getElem?_replicate] at h2'
    split at h2' <;> cases h2'
  · rw [List.getElem?_append_right (by simpa using hi), List.getElem?_map, List.length_replicate] at h2'
    rw [List.getElem?_append_right (by omega), List.getElem?_map] at h1'
    cases hj : caps[i - own.length]? with
    | none => rw [hj] at h1'; cases h1'
    | some j =>
      rw [hj] at h1' h2'
      obtain ⟨j1, j2⟩ := S.caps j (List.mem_of_getElem? hj)
      have hx : X.N.getD j "" = x := by simpa using h1'
      have hσ : σ[j]? = some (some v) := by
        have : (σ[j]?).join = some v := by simpa using h2'
        cases q : σ[j]? with
        | none => rw [q] at this; cases this
        | some o => rw [q] at this; have : o = some v := this; rw [this]
      rw [hx] at j2
      have hN : X.N[j]? = some x := by
        rw [List.getD_eq_getElem?_getD, List.getElem?_eq_getElem j1] at hx
        rw [List.getElem?_eq_getElem j1]
        simpa using hx
      obtain ⟨m, hn, hloc⟩ := I.loc
      have kx := S.free (x, .free) (mem_of_lookup j2) rfl
      have vis : Vis X.env.scope x := by
        rcases kx with k | k
        · exact .inr (.inl k)
        · exact .inr (.inr k)
      obtain ⟨u, ru, l⟩ := hloc j x v hN hσ vis
      refine ⟨u, ru, .inr ⟨?_, ?_⟩⟩
      · rcases relabel_look (scope := sc) (env := X.env) sc.names j2 with h | ⟨_, h⟩
        · exact .inr h
        · exact .inl h
      · rcases l with ⟨k, _⟩ | ⟨_, c, ec, hc⟩
        · have k' : X.env.kindOf x = some .local := k
          have kx' : X.env.kindOf x = some .cell ∨ X.env.kindOf x = some .free := kx
          rw [k'] at kx'
          rcases kx' with z | z <;> cases z
        · exact ⟨c, blk_cap I S j2 ec, keepc x c _ ec hc⟩
theorem inv_block (I : Inv X pins σ H s) (S : CpScope X.N sc own caps X.env N') (hf : ∀ b ∈ fp, FpOk X pins H b) (hl : ∀ b ∈ fp, b < s.heap.objs.size) :
    Inv (blk X sc N' s.heap.objs.size s H fp) [] (mkσ own.length caps σ) H { s with heap := pushCells (s.heap.push { cls := .type "dict", data := .dict #[] }) sc.names } := by
  have keep : ∀ b o, s.heap.get? b = some o → (pushCells (s.heap.push { cls := .type "dict", data := .dict #[] }) sc.names).get? b = some o := fun b o e => pushCells_keeps _ _ b o (Heap.get?_push_of_some _ e)
  have ok := I.ok
  have inj : ∀ x y c, (blkEnv sc s.heap.objs.size X.env).cells.lookup x = some c → (blkEnv sc s.heap.objs.size X.env).cells.lookup y = some c → x = y := fun x y c e1 e2 => by
    refine name_of_addr (cs := (blkEnv sc s.heap.objs.size X.env).cells) ?_ (mem_of_lookup e1) (mem_of_lookup e2)
    refine cf_apart _ _ _ (clOf_apart ok.inj _ _ S.snd (free_has I S) List.Pairwise.nil (fun p hp => by cases hp)) fun p hp => ?_
    rcases clOf_mem (x := p.1) (c := p.2) sc.names [] (free_has I S) hp with z | ⟨_, z⟩
    · cases z
    · obtain ⟨v, hc⟩ := I.cell _ _ z
      exact Nat.lt_succ_of_lt hc.lt
  have frC : ∀ b, s.heap.objs.size ≤ b → H b = none := fun b hb => I.hok.fresh hb
  have kfun : (blkEnv sc s.heap.objs.size X.env).scope.kind = .function := S.kind
  refine ⟨⟨ok.mod, kfun, ok.glob, ok.blt, Nat.le_refl _, inj, fun x hx => ?_, fun x c hfn e => ?_, ok.hd, ok.frames, .inl rfl, fun b hb => ⟨Nat.ne_of_lt (hl b hb), fun x c e z => ?_⟩, I.bs, Nat.le_trans ok.bsz I.sz, fun b o e hb => ?_, fun b hb z => ?_, I.stack, I.stkFree⟩,
    rfl, I.bare, Un.kept keep, ⟨_, (Heap.Ns.new s.heap (.type "dict")).keeps (pushCells_keeps _ _), fun i x v h1 h2 h3 => ?_⟩, fun x c e => ?_, frC _ (Nat.le_refl _), fun x c e => ?_, fun p hp => absurd (show p ∈ ([] : List (Addr × Obj)) from hp) (by simp), I.hok.kept keep, ?_⟩
  · -- has
    have hx' : (relabel sc X.env).names.lookup x = some .cell ∨ (relabel sc X.env).names.lookup x = some .free := hx
    have : ∃ k, sc.names.lookup x = some k := by
      have key : ∀ (l : List (Str × NameKind)) (k' : NameKind), (l.map fun (n, k) => if (k == NameKind.free && X.env.scope.kind == .function && X.env.kindOf n == some .cell) then (n, NameKind.cell) else (n, k)).lookup x = some k' → ∃ k, l.lookup x = some k := by
        intro l
        induction l with
        | nil => intro k' h; simp at h
        | cons a r ih =>
          intro k' h
          obtain ⟨n, k0⟩ := a
          cases hb : x == n with
          | true => exact ⟨k0, by simp [List.lookup_cons, hb]⟩
          | false =>
            have h2 : List.lookup x ((if (k0 == NameKind.free && X.env.scope.kind == .function && X.env.kindOf n == some .cell) = true then (n, NameKind.cell) else (n, k0)) :: (r.map _)) = some k' := h
            obtain ⟨k, hk⟩ := ih k' (by
              split at h2 <;> (simp only [List.lookup_cons, hb] at h2; exact h2))
            exact ⟨k, by simp only [List.lookup_cons, hb]; exact hk⟩
      rcases hx' with h | h
      · exact key _ _ h
      · exact key _ _ h
    obtain ⟨k, hk⟩ := this
    rcases relabel_look (scope := sc) (env := X.env) sc.names hk with h | ⟨h1, h2⟩
    · have hkk : k = .cell ∨ k = .free := by
        have h' : (relabel sc X.env).names.lookup x = some k := h
        rcases hx' with z | z <;> rw [z] at h' <;> cases h' <;> simp
      rcases hkk with rfl | rfl
      · exact Option.isSome_iff_exists.mp (PySem.W.cellsFrom_some sc.names _ _ (.inl hk))
      · obtain ⟨c, e⟩ := ok.has x (S.free (x, .free) (mem_of_lookup hk) rfl)
        exact ⟨c, blk_cap I S hk e⟩
    · subst h1
      obtain ⟨c, e⟩ := ok.has x (S.free (x, .free) (mem_of_lookup hk) rfl)
      exact ⟨c, blk_cap I S hk e⟩
  · -- cab
    have hfn' : sc.names.lookup x = some .cell := by
      have : (sc.names.lookup x == some NameKind.cell) = true := hfn
      simpa using this
    rcases blk_cells I S e with ⟨_, _, z⟩ | ⟨z, _⟩
    · exact absurd hfn' z
    · show s.heap.objs.size ≤ c
      exact Nat.le_of_succ_le z
  · rcases blk_cells I S e with ⟨z1, _, _⟩ | ⟨z1, _⟩
    · exact (hf b hb).2.2.2.2.1 x c z1 z
    · have := hl b hb
      rw [← z] at this
      exact Nat.lt_irrefl _ (Nat.lt_of_lt_of_le this (Nat.le_of_succ_le z1))
  · have q := (hf b hb).2.2.2.1
    rcases q with q | q
    · exact ok.noex b o e q
    · have q2 : b < X.base.objs.size := Heap.lt_size e
      exact Nat.lt_irrefl _ (Nat.lt_of_lt_of_le q2 (Nat.le_trans ok.bsz q))
  · rcases List.mem_cons.mp (I.stkSub b z) with z | z
    · exact (hf b hb).2.1 z
    · exact (hf b hb).2.2.1 z
  · exact blk_look I S (fun x c v _ hc => hc.keeps keep) i x v h1 h2
  · rcases blk_cells I S e with ⟨z1, _, _⟩ | ⟨_, z⟩
    · obtain ⟨v, hc⟩ := I.cell x c z1
      exact ⟨v, hc.keeps keep⟩
    · exact ⟨_, z⟩
  · rcases blk_cells I S e with ⟨z1, _, _⟩ | ⟨z, _⟩
    · exact I.freeC x c z1
    · exact frC c (Nat.le_of_succ_le z)
  · show (mkσ own.length caps σ).length = N'.length
    rw [S.names]; unfold mkσ; simp
theorem inv_again {pins' : List (Addr × Obj)} {σ5 : St} {H5 : Hp} {s5 : Shared} (I : Inv X pins σ H s) (S : CpScope X.N sc own caps X.env N') (hf : ∀ b ∈ fp, FpOk X pins H b) (B : Inv (blk X sc N' s.heap.objs.size s H fp) pins' σ5 H5 s5) :
    Inv (blk X sc N' s.heap.objs.size s H fp) pins' (mkσ own.length caps σ) H5 s5 := by
  obtain ⟨m, hn, _⟩ := B.loc
  have kc : ∀ x c v, X.env.cells.lookup x = some c → s.heap.IsCell c v → s5.heap.IsCell c v := fun x c v e ⟨o, ho, hd⟩ => by
    have nx : c ∉ fp := fun z => (hf c z).2.2.2.2.1 x c e rfl
    by_cases hc : c ∈ frs X.stack
    · obtain ⟨sl, q⟩ := B.base.slot c o ho (I.freeC x c e) hc nx
      exact ⟨_, q, hd⟩
    · exact ⟨o, B.base.keep c o ho (I.freeC x c e) hc nx, hd⟩
  exact ⟨B.ok, B.os, B.bare, B.base, ⟨m, hn, fun i x v h1 h2 h3 => blk_look I S kc i x v h1 h2⟩, B.cell, B.free, B.freeC, B.pin, B.hok, by show (mkσ own.length caps σ).length = N'.length; rw [S.names]; unfold mkσ; simp⟩
end
end L3

namespace L3
open PySem PySem.Spec PyProof.Rows L2

abbrev testsOf (ifs : List Expr) (env : Env) : Sem Bool := forIn ifs true fun c r => if r = true then do let ok ← isTrue c env (eval c env); pure (ForInStep.yield ok) else pure (ForInStep.yield r)
section
variable {prog : Program} {w : World} {A : Around} {R : Result → Shared → Prop} {s : Shared}
theorem comp_loop {elt target iter : Expr} {ifs : List Expr} {scope : Scope} {pos : Pos} {it acc : Value} {env : Env} (I : Nat → Shared → Prop)
    (turn : ∀ n s, I n s → wpAny (model prog w) A (pyNext it) (fun r s₁ => match r with
      | none => R (.ok .next) s₁
      | some v => wpAny (model prog w) A (letOwnedTupleGo target it v) (fun _ s₁' => wpAny (model prog w) A (assign target env v) (fun _ s₂ =>
          wpAny (model prog w) A (testsOf ifs env) (fun ok s₃ =>
            if ok = true then wpAny (model prog w) A (eval elt env) (fun x s₄ =>
              wpAny (model prog w) A (call (.builtin "list.append") [acc, x]) (fun _ s₅ => ∃ m, m < n ∧ I m s₅) (fun _ _ => False) s₄) (fun _ _ => False) s₃
            else ∃ m, m < n ∧ I m s₃) (fun _ _ => False) s₂) (fun _ _ => False) s₁') (fun _ _ => False) s₁) (fun _ _ => False) s)
    (n : Nat) (h : I n s) :
    codeAny (model prog w) A (.compLoop (.ListComp elt [⟨target, iter, ifs, 0⟩] scope pos) 0 it acc env) R s := by
  refine codeAny_loop rfl I (fun n s hI => ?_) n h
  show wpAny _ A ((compTurn (.ListComp elt [⟨target, iter, ifs, 0⟩] scope pos) 0 it acc env).onRaise (fun x => do noteFrame x env; theTreesLotGoes x)) _ _ s
  refine wpAny_noted ?_
  rw [compTurn_list]
  refine wpAny_bind (wpAny_standAt (wpAny_bind (wpAny_mono (turn n s hI) (fun r s₁ h₁ => ?_) fun _ _ h' => h'.elim)))
  cases r with
  | none => exact wpAny_pure h₁
  | some v =>
    refine wpAny_bind (wpAny_mono h₁ (fun _ s₁' h₁' => ?_) fun _ _ h' => h'.elim)
    refine wpAny_bind (wpAny_mono h₁' (fun _ s₂ h₂ => wpAny_bind (wpAny_mono h₂ (fun ok s₃ h₃ => ?_) fun _ _ h' => h'.elim)) fun _ _ h' => h'.elim)
    cases ok with
    | false => exact wpAny_pure ⟨rfl, h₃⟩
    | true =>
      exact wpAny_bind (wpAny_bind (wpAny_mono h₃ (fun x s₄ h₄ => wpAny_bind (wpAny_mono h₄ (fun _ s₅ h₅ => wpAny_pure (wpAny_pure ⟨rfl, h₅⟩)) fun _ _ h' => h'.elim)) fun _ _ h' => h'.elim))
end

def PTs (X : Cx) (ifs : List Expr) (t : TT) : Prop :=
  ∀ (pins : List (Addr × Obj)) (s : Shared) (σ : St) (H : Hp) (Q : Bool → Hp → Prop), Inv X pins σ H s → t σ H Q → wpAny (model X.prog X.w) X.A (testsOf ifs X.env) (TP X pins σ Q) X.xe s
theorem pts_nil {X : Cx} : PTs X [] (fun _ H Q => Q true H) := fun pins s σ H Q I h => wpAny_tests_nil ⟨H, I, h⟩
def CompW (acc : Addr) (J : It) (σ' : St) (g : TG) (tc : TT) (te : TE) (Q : V → Hp → Prop) (H1 : Hp) : Prop :=
  ∃ W : Nat → Nat → List V → Hp → Prop, (∃ m, W 0 m [] H1) ∧ ∀ i m vs H, W i m vs H → H acc = some (.lst vs) ∧ vs.length < sizeLine + 1 ∧
    ((J.stop i H ∧ Q (.ref acc) H) ∨ (J.go i H ∧ vs.length < sizeLine ∧ ∀ x H', J.yld i H x H' → g x σ' H' fun σ2 H2 => tc σ2 H2 fun b H3 =>
      if b = true then te σ2 H3 fun v H4 => H4 acc = some (.lst vs) ∧ ∃ m', m' < m ∧ W (i + 1) m' (vs ++ [v]) (upd H4 acc (.lst (vs ++ [v])))
      else ∃ m', m' < m ∧ W (i + 1) m' vs H3))
def tComp (own : Nat) (caps : List Nat) (wi : TI) (g : TG) (tc : TT) (te : TE) : TE := fun σ H Q => wi σ H fun J H1 => ∀ acc, H1 acc = none → CompW acc J (mkσ own caps σ) g tc te Q (upd H1 acc (.lst []))

section
variable {X : Cx} {sc : Scope} {own : List Str} {caps : List Nat} {N' : List Str} {elt tg iter : Expr} {ifs : List Expr} {pos : Pos} {wi : TI} {g : TG} {tc : TT} {te : TE}
theorem comp_core (S : CpScope X.N sc own caps X.env N') (hc : X.calm = true) (hi : PI X tg iter wi)
    (hg : ∀ C s₀ H₀ fp, PG (blk X sc N' C s₀ H₀ fp) tg g) (ht : ∀ C s₀ H₀ fp, PTs (blk X sc N' C s₀ H₀ fp) ifs tc) (he : ∀ C s₀ H₀ fp, PE (blk X sc N' C s₀ H₀ fp) elt te)
    {e : Expr} (ee : e = .ListComp elt [⟨tg, iter, ifs, 0⟩] sc pos) (hs : ∀ x, foldedSetIterable iter X.env x = pure x)
    {use : Option (Value → Sem Unit)} {ps : Pos} {Qv : Value → Shared → Prop} {pins : List (Addr × Obj)} {s : Shared} {σ : St} {H : Hp} {Q : V → Hp → Prop} (I : Inv X pins σ H s) (h : tComp own.length caps wi g tc te σ H Q)
    (fin : ∀ acc C H' s5, Inv X pins σ H' s5 → Q (.ref acc) H' → (∃ m, s5.heap.Ns C m) → H' C = none → C ≠ X.env.locals → X.s₀.heap.objs.size ≤ C → (∀ x c, X.env.cells.lookup x = some c → c ≠ C) → (∀ p ∈ X.pn ++ pins, p.1 ≠ C) → C ∉ X.fs →
      compPost (model X.prog X.w) X.A X.xe use Qv (.ref acc) C (.ok .next) s5) :
    wpAny (model X.prog X.w) X.A (comprehension e sc X.env ps (newList []) false (eval iter X.env) use) Qv X.xe s := by
  subst ee
  refine wpAny_comprehension_free (g := ⟨tg, iter, ifs, 0⟩) (gs := []) (cl := clOf X.env sc.names []) rfl hs (clos_ok (free_has I S)) S.kind ?_ (thn (hi pins s σ H _ I h) fun v s1 h1 => thn h1 fun itv s2 h2 => ?_)
  · intro p hp hk
    have nd := S.snd
    rw [List.Nodup, List.pairwise_map] at nd
    have d : ∀ (l : List (Str × NameKind)), (l.Pairwise fun a b => a.1 ≠ b.1) → p ∈ l → l.lookup p.1 = some .local := by
      intro l
      induction l with
      | nil => intro _ h; cases h
      | cons a r ih =>
        intro hpw h1
        obtain ⟨p1, p2⟩ := List.pairwise_cons.mp hpw
        rcases List.mem_cons.mp h1 with e1 | h1
        · subst e1
          rw [List.lookup_cons]; simp [hk]
        · have hb : (p.1 == a.1) = false := by rw [beq_eq_false_iff_ne]; exact Ne.symm (p1 p h1)
          rw [List.lookup_cons, hb]; exact ih p2 h1
    exact d _ nd hp
  obtain ⟨it, fp, tn, J, H2, rfl, I2, T, st2, f2, R2⟩ := h2
  have hp0 := I2.fresh
  refine wpAny_newObj_type ?_
  have I3 := I2.lnew (its := []) (ys := []) (t' := s2.toks) .nil (Nat.zero_le _)
  generalize hacc : s2.heap.objs.size = acc at *
  obtain ⟨W, ⟨m0, w0⟩, turn⟩ := R2 acc hp0
  have f3 : ∀ b ∈ fp, FpOk X pins (upd H2 acc (.lst [])) b := fun b hb => by
    refine ⟨?_, (f2 b hb).2⟩
    obtain ⟨o, eo, _⟩ := T.obj _ _ st2 b hb
    rw [upd_ne (Nat.ne_of_lt (by rw [← hacc]; exact Heap.lt_size eo))]
    exact (f2 b hb).1
  have hlt : ∀ b ∈ fp, b < (s2.heap.push { cls := .type "list", data := .seq ([] : List Value).toArray }).objs.size := fun b hb => by
    obtain ⟨o, eo, _⟩ := T.obj _ _ st2 b hb
    rw [Heap.size_push]
    exact Nat.lt_succ_of_lt (Heap.lt_size eo)
  have st3 : tn 0 (s2.heap.push { cls := .type "list", data := .seq ([] : List Value).toArray }) := T.keep _ _ _ st2 fun b hb o e => Heap.get?_push_of_some _ e
  refine new_block ?_
  show codeAny _ _ (.compStart (.ListComp elt [⟨tg, iter, ifs, 0⟩] sc pos) 0 (.ref it) (.ref acc) (blkEnv sc (s2.heap.push { cls := .type "list", data := .seq ([] : List Value).toArray }).objs.size X.env)) (compPost _ _ _ use Qv (.ref acc) (s2.heap.push { cls := .type "list", data := .seq ([] : List Value).toArray }).objs.size) _
  generalize hs3 : ({ s2 with heap := s2.heap.push { cls := .type "list", data := .seq ([] : List Value).toArray }, toks := s2.toks } : Shared) = s3 at *
  have hh3 : s2.heap.push { cls := .type "list", data := .seq ([] : List Value).toArray } = s3.heap := by rw [← hs3]
  have hs3' : ({ s2 with heap := s2.heap.push { cls := .type "list", data := .seq ([] : List Value).toArray } } : Shared) = s3 := by rw [← hs3]
  rw [hh3] at hlt st3 ⊢
  have I4 := inv_block I3 S f3 hlt
  have st4 : tn 0 (pushCells (s3.heap.push { cls := .type "dict", data := .dict #[] }) sc.names) := T.keep _ _ _ st3 fun b hb o e => pushCells_keeps _ _ b o (Heap.get?_push_of_some _ e)
  have key : codeAny (model X.prog X.w) X.A (.compLoop (.ListComp elt [⟨tg, iter, ifs, 0⟩] sc pos) 0 (.ref it) (.ref acc) (blkEnv sc s3.heap.objs.size X.env)) (compPost (model X.prog X.w) X.A X.xe use Qv (.ref acc) s3.heap.objs.size)
      { s3 with heap := pushCells (s3.heap.push { cls := .type "dict", data := .dict #[] }) sc.names } := by
    have stat : ∀ {H' : Hp}, (∀ b ∈ fp, H' b = none) → ∀ b ∈ fp, FpOk (blk X sc N' s3.heap.objs.size s3 (upd H2 acc (.lst [])) fp) [] H' b := fun hn b hb =>
      ⟨hn b hb, (I4.ok.exf b hb).1, I4.ok.exfs b hb, .inl hb, (I4.ok.exf b hb).2, fun p hp => absurd (show p ∈ ([] : List (Addr × Obj)) from hp) (by simp)⟩
    refine comp_loop (fun n s' => ∃ i vs σ' H', Inv (blk X sc N' s3.heap.objs.size s3 (upd H2 acc (.lst [])) fp) [] σ' H' s' ∧ tn i s'.heap ∧ (∀ b ∈ fp, H' b = none) ∧ W i n vs H') ?_ m0
      ⟨0, [], mkσ own.length caps σ, _, I4, st4, fun b hb => (f3 b hb).1, w0⟩
    rintro n s5 ⟨i, vs, σ5, H5, I5, st5, fr5, w5⟩
    obtain ⟨ha5, hz5, ⟨stop, qn⟩ | ⟨go, hz, step⟩⟩ := turn i n vs H5 w5
    · refine thn (T.done (blk X sc N' s3.heap.objs.size s3 (upd H2 acc (.lst [])) fp) rfl rfl rfl hc i [] s5 σ5 H5 _ I5 (stat fr5) st5 stop) fun r s6 ⟨hr, I6⟩ => ?_
      subst hr
      have IX : Inv X pins σ H5 s6 := I3.call' (ch := fp) I6.os I6.base I6.hok I6.bare fun b hb => ⟨(f3 b hb).2.2.2.1, (f3 b hb).2.1, (f3 b hb).2.2.2.2.1, (f3 b hb).2.2.2.2.2⟩
      obtain ⟨m6, hn6, _⟩ := I6.loc
      refine fin acc s3.heap.objs.size H5 s6 IX qn ⟨m6, hn6⟩ I6.free (Nat.ne_of_gt I3.lt) I3.sz (fun x c e z => ?_) (fun p hp z => ?_) (I3.nofs (Nat.le_refl _))
      · obtain ⟨v, q⟩ := I3.cell x c e
        exact absurd q.lt (by rw [z]; exact Nat.lt_irrefl _)
      · exact absurd (Heap.lt_size (I3.pin p hp).1) (by rw [z]; exact Nat.lt_irrefl _)
    · -- a turn: the block's own names are forgotten first
      have I5' : Inv (blk X sc N' s3.heap.objs.size s3 (upd H2 acc (.lst [])) fp) [] (mkσ own.length caps σ) H5 s5 := inv_again I3 S f3 I5
      refine thn (T.item (blk X sc N' s3.heap.objs.size s3 (upd H2 acc (.lst [])) fp) rfl rfl rfl hc i [] s5 _ H5 _ I5' (stat fr5) st5 go) fun r s6 ⟨u, hr, h6⟩ => ?_
      subst hr
      refine thn h6 fun _ s7 ⟨x, H7, I7, r7, y7, st7, fr7⟩ => ?_
      have I7' := I7.pinned (stat fr7) (T.obj _ _ st7)
      refine thn (hg _ _ _ _ _ s7 _ H7 x u _ I7' r7 (step x H7 y7)) fun _ s8 ⟨σ8, H8, I8, q8⟩ => ?_
      refine thn (ht _ _ _ _ _ s8 σ8 H8 _ I8 q8) fun b s9 ⟨H9, I9, q9⟩ => ?_
      have again : ∀ {vs' : List V} {σ' : St} {H' : Hp} {s' : Shared}, Inv (blk X sc N' s3.heap.objs.size s3 (upd H2 acc (.lst [])) fp) ([] ++ pinsAt fp s7.heap) σ' H' s' → (∃ m', m' < n ∧ W (i + 1) m' vs' H') →
          ∃ m, m < n ∧ ∃ i vs σ' H', Inv (blk X sc N' s3.heap.objs.size s3 (upd H2 acc (.lst [])) fp) [] σ' H' s' ∧ tn i s'.heap ∧ (∀ b ∈ fp, H' b = none) ∧ W i m vs H' := fun {vs' σ' H' s'} I' ⟨m', hm, w'⟩ => by
        refine ⟨m', hm, i + 1, vs', σ', H', I'.unpinned, T.keep _ _ _ st7 fun b hb o e => (I'.pin (b, o) (List.mem_append_right _ (List.mem_append_right _ (mem_pinsAt hb e)))).1, fun b hb => ?_, w'⟩
        obtain ⟨o, e, d⟩ := T.obj _ _ st7 b hb
        exact (I'.pin (b, o) (List.mem_append_right _ (List.mem_append_right _ (mem_pinsAt hb e)))).2.1
      cases b with
      | false =>
        rw [if_neg Bool.false_ne_true] at q9 ⊢
        exact again I9 q9
      | true =>
        rw [if_pos rfl] at q9 ⊢
        refine thn (he _ _ _ _ _ s9 σ8 H9 _ I9 q9) fun y s10 ⟨v, H10, I10, r10, hacc10, q10⟩ => ?_
        refine thn (mt_append (X := blk X sc N' s3.heap.objs.size s3 (upd H2 acc (.lst [])) fp) _ s10 σ8 H10 (.ref acc) [v] (.ref acc) [y] (fun _ H' => H' = upd H10 acc (.lst (vs ++ [v]))) I10 rfl (.cons r10 .nil) ⟨acc, vs, v, rfl, rfl, hacc10, hz, rfl⟩) fun _ s11 ⟨_, H11, I11, _, e11⟩ => ?_
        subst e11
        exact again I11 q10
  exact codeAny_compStart_list key (T.self _ _ _ _ _ st4 key)
end
end L3

namespace L3
open PySem PySem.Spec PyProof.Rows L2

def ItD (K : PySem.W.Frag) (F Hx : Hp) (J : It) (ds : List D) : Prop := ds.length ≤ sizeLine ∧ ∀ (i : Nat) (H1 F1 : Hp), Same F F1 → Same F1 H1 → Same Hx H1 →
  (i = ds.length → J.stop i H1) ∧ ∀ d, ds[i]? = some d → J.go i H1 ∧ ∀ x H', J.yld i H1 x H' → ∃ F2, Gr F1 H1 F2 H' ∧ Rep K F2 d x
def noH : Hp := fun _ => none
theorem noH_same {H : Hp} : Same noH H := fun _ _ e => by cases e
def upI (K : PySem.W.Frag) (F0 H0 : Hp) (t : TF2) (E : XW) : TI := fun σ H R => ∃ F Γ P, SR K F0 H0 F H σ Γ ∧ t Γ P E ∧ ∀ ds Γ' F' H' J Hx, SR K F0 H0 F' H' σ Γ' → Same F F' → Same Hx H' → ItD K F' Hx J ds → P ds Γ' → R J H'
def upI0 (K : PySem.W.Frag) (F0 H0 : Hp) (t : TF2) (E : XW) : TI := fun σ H R => ∃ F Γ P, SR K F0 H0 F H σ Γ ∧ t Γ P E ∧ ∀ ds Γ' F' H' J, SR K F0 H0 F' H' σ Γ' → Same F F' → ItD K F' noH J ds → P ds Γ' → R J H'
def QI (X : Cx) (F0 H0 : Hp) (tg e : Expr) (t : TF2) : Prop := ∀ z E, Ctx (X.wsh z) F0 H0 E → PI (X.wsh z) tg e (upI0 X.K F0 H0 t E)
def QIc (X : Cx) (F0 H0 : Hp) (tg e : Expr) (t : TF2) : Prop := ∀ z E, Ctx (X.wsh z) F0 H0 E → PI (X.wsh z) tg e (upI X.K F0 H0 t E)
theorem piC {X : Cx} {tg e : Expr} {t t' : TI} (h : PI X tg e t) (hi : ∀ σ H R, t' σ H R → t σ H R) : PI X tg e t' := fun pins s σ H R I q => h pins s σ H R I (hi _ _ _ q)
theorem qic {X : Cx} {F0 H0 : Hp} {tg e : Expr} {t : TF2} (h : QI X F0 H0 tg e t) : QIc X F0 H0 tg e t := fun z E cx => piC (h z E cx) fun σ H R ⟨F, Γ, P, S, q, k⟩ => ⟨F, Γ, P, S, q, fun ds Γ' F' H' J S' s' hJ hp => k ds Γ' F' H' J noH S' s' noH_same hJ hp⟩

def iSeqZ (K : PySem.W.Frag) (tl : TE) : TI := fun σ H R => tl σ H fun x H1 => ∃ a, x = .ref a ∧ ((∃ xs, SqL K H1 a xs ∧ (xs.length ≤ sizeLine → R (Itl K a) H1)) ∨ (∃ xs, SqT K H1 a xs ∧ (xs.length ≤ sizeLine → R (Itt K a) H1)))
theorem pi_seqZ {X : Cx} {l tg : Expr} {tl : TE} (hl : PE X l tl) : PI X tg l (iSeqZ X.K tl) := by
  intro pins s σ H R I h
  refine thn (hl pins s σ H _ I h) fun v s1 ⟨x, H1, I1, r1, q1⟩ => ?_
  obtain ⟨a, e, q⟩ := q1
  subst e
  cases r1
  rcases q with ⟨xs, hq, q⟩ | ⟨xs, hq, q⟩
  · obtain ⟨its, rv, p, hz⟩ := I1.list hq
    refine wpAny_pyIter_list p.isList ?_
    refine ⟨s1.heap.objs.size, [s1.heap.objs.size], _, _, H1, rfl, I1.kept (t' := s1.toks) fun b o e => Heap.get?_push_of_some _ e, turn_list a _, ⟨_, Heap.get?_push_size _ rfl, rfl, rfl⟩, fun b hb => ?_, q hz⟩
    obtain rfl : b = s1.heap.objs.size := by simpa using hb
    exact I1.fpOk (Nat.le_refl _) (I1.hok.fresh (Nat.le_refl _))
  · obtain ⟨its, rv, p, hz⟩ := I1.tuple hq
    refine wpAny_pyIter_tuple (show s1.heap.IsTuple a its.toArray from p) ?_
    refine ⟨s1.heap.objs.size, [s1.heap.objs.size], _, _, H1, rfl, I1.kept (t' := s1.toks) fun b o e => Heap.get?_push_of_some _ e, turn_tuple a _, ⟨_, Heap.get?_push_size _ rfl, rfl, rfl⟩, fun b hb => ?_, q hz⟩
    obtain rfl : b = s1.heap.objs.size := by simpa using hb
    exact I1.fpOk (Nat.le_refl _) (I1.hok.fresh (Nat.le_refl _))
theorem itd_tup {K : PySem.W.Frag} {F Hx : Hp} {a : Addr} {vs : List V} {ds : List D} (hq : ∀ H1, Same F H1 → SqT K H1 a vs) (rs : Reps K F ds vs) (hz : vs.length ≤ sizeLine) : ItD K F Hx (Itt K a) ds := by
  have hl := reps_len rs
  refine ⟨by omega, fun i H1 F1 s1 s2 s3 => ⟨fun e => ⟨vs, hq H1 (s1.trans s2), by omega⟩, fun d hd => ?_⟩⟩
  obtain ⟨v, hv, rv⟩ := reps_get rs hd
  refine ⟨⟨vs, v, hq H1 (s1.trans s2), hv⟩, fun x H' y => ?_⟩
  obtain ⟨rfl, y⟩ := y
  have := y vs (hq _ (s1.trans s2))
  rw [hv] at this; cases this
  exact ⟨F1, Gr.refl s2, rv.up s1⟩
def iL (te : TE2) : TF2 := fun Γ P E => te Γ (fun d Γ1 => match d with | .lst ds => P ds Γ1 | .tup ds => P ds Γ1 | _ => False) E
section
variable {X : Cx} {F0 H0 : Hp} {e tg : Expr} {es : List Expr} {pos : Pos} {te : TE2} {g : TG2} {gs : TGs2} {ti : TF2} {tb : TS2}
theorem qi_seq (h : QE X F0 H0 e te) : QI X F0 H0 tg e (iL te) := fun z E cx => piC (pi_seqZ (h z E cx)) fun σ H R ⟨F, Γ, P, S, q, k⟩ => ⟨F, Γ, _, S, q, fun d Γ1 F1 H1 v R1 s1 r1 h1 => by
  cases d with
  | lst ds =>
    unfold Rep at r1
    obtain ⟨a, vs, rfl, hq, rs⟩ := r1
    refine ⟨a, rfl, .inl ⟨vs, R1.g.seq hq, fun hz => k ds Γ1 F1 H1 _ R1 s1 ?_ h1⟩⟩
    refine ⟨by rw [reps_len rs]; exact hz, fun i H2 F2 s2 s3 s4 => ⟨fun e => ⟨vs, s3.seq (s2.seq hq), by rw [e, reps_len rs]; exact Nat.le_refl _⟩, fun d hd => ?_⟩⟩
    obtain ⟨v, hv, rv⟩ := reps_get rs hd
    refine ⟨⟨vs, v, s3.seq (s2.seq hq), hv⟩, fun x H' y => ?_⟩
    obtain ⟨rfl, y⟩ := y
    have := y vs (s3.seq (s2.seq hq))
    rw [hv] at this; cases this
    exact ⟨F2, Gr.refl s3, rv.up s2⟩
  | tup ds =>
    unfold Rep at r1
    obtain ⟨a, vs, rfl, hq, rs⟩ := r1
    exact ⟨a, rfl, .inr ⟨vs, sqT_mono R1.g hq, fun hz => k ds Γ1 F1 H1 _ R1 s1 (itd_tup (fun H2 s => sqT_mono s hq) rs hz) h1⟩⟩
  | _ => exact False.elim h1⟩
def cForI (ti : TF2) (g : TG2) (tb : TS2) : TS2 := fun D0 Γ E => ti Γ (fun ds Γ1 => LoopW ds g tb D0 E Γ1) E
def capS (Γ : G2) (j : Nat) : Slot := match Γ[j]? with | some (.pu d) => .pu d | _ => .no
def capG (own : Nat) (caps : List Nat) (Γ : G2) : G2 := List.replicate own .no ++ caps.map (capS Γ)
theorem sr_block {K : PySem.W.Frag} {F H : Hp} {σ : St} {Γ : G2} (own : Nat) (caps : List Nat) (R : SR K F0 H0 F H σ Γ) : SR K F H F H (mkσ own caps σ) (capG own caps Γ) := by
  have len : (mkσ own caps σ).length = (capG own caps Γ).length := by simp [mkσ, capG]
  have noow : ∀ (i : Nat) ds, (capG own caps Γ)[i]? ≠ some (.ow ds) := fun i ds e => by
    unfold capG at e
    by_cases hi : i < own
    · rw [List.getElem?_append_left (by simpa using hi), List.getElem?_replicate] at e
      split at e <;> cases e
    · rw [List.getElem?_append_right (by simpa using hi), List.getElem?_map] at e
      cases q : caps[i - (List.replicate own Slot.no).length]? with
      | none => rw [q] at e; cases e
      | some j =>
        rw [q] at e
        have e' : capS Γ j = .ow ds := by simpa using e
        unfold capS at e'
        split at e' <;> cases e'
  refine ⟨Gr.refl R.g, len, fun i s e => ?_, fun i j a ds es e => absurd e (noow i ds)⟩
  by_cases hi : i < own
  · refine ⟨none, ?_, ?_⟩
    · unfold mkσ; rw [List.getElem?_append_left (by simpa using hi), List.getElem?_replicate, if_pos hi]
    · unfold capG at e; rw [List.getElem?_append_left (by simpa using hi), List.getElem?_replicate, if_pos hi] at e
      cases e; trivial
  · unfold capG at e
    rw [List.getElem?_append_right (by simpa using hi), List.getElem?_map, List.length_replicate] at e
    cases q : caps[i - own]? with
    | none => rw [q] at e; cases e
    | some j =>
      rw [q] at e
      have e' : capS Γ j = s := by simpa using e
      refine ⟨(σ[j]?).join, ?_, ?_⟩
      · unfold mkσ; rw [List.getElem?_append_right (by simpa using hi), List.getElem?_map, List.length_replicate, q]; rfl
      · unfold capS at e'
        split at e'
        · rename_i d hd
          subst e'
          obtain ⟨o, e1, v, rfl, rv⟩ := R.sl j _ hd
          exact ⟨v, by rw [e1]; rfl, rv⟩
        · subst e'; trivial
def oneR (g : TG2) (tc : TT2) (te : TE2) (Γ0 : G2) (x : D) (P : List D → Prop) : Prop := g x Γ0 (fun Γ1 => tc Γ1 (fun b Γ2 => if b = true then te Γ2 (fun d _ => P [d]) noX else P []) noX) noX
def compR (one : D → (List D → Prop) → Prop) : List D → (List D → Prop) → Prop
  | [], P => P []
  | x :: xs, P => one x fun ys => compR one xs fun zs => P (ys ++ zs)
def fComp (own : Nat) (caps : List Nat) (ti : TF2) (g : TG2) (tc : TT2) (te : TE2) : TF2 := fun Γ P E => ti Γ (fun ds Γ1 => compR (oneR g tc te (capG own caps Γ1)) ds fun ys => P ys Γ1) E
def cYes : TT2 := fun Γ P _ => P true Γ
def QTs (X : Cx) (F0 H0 : Hp) (ifs : List Expr) (t : TT2) : Prop := ∀ z E, Ctx (X.wsh z) F0 H0 E → PTs (X.wsh z) ifs (upT X.K F0 H0 t E)
theorem qts_nil : QTs X F0 H0 [] cYes := fun z E cx pins s σ H Q I ⟨F, Γ, P, R, h, k⟩ => pts_nil pins s σ H Q I (k _ _ _ _ R (.refl _) h)
end

section
variable {X : Cx} {F0 H0 : Hp} {elt tg iter : Expr} {ifs : List Expr} {sc : Scope} {own : List Str} {caps : List Nat} {N' : List Str} {pos : Pos} {te : TE2} {g : TG2} {tc : TT2} {ti : TF2}
def gX (K : PySem.W.Frag) (g : TG2) : TG := fun v σ H Q => ∃ F0 H0, upG K F0 H0 g noX v σ H Q
def tX (K : PySem.W.Frag) (t : TT2) : TT := fun σ H Q => ∃ F0 H0, upT K F0 H0 t noX σ H Q
def eX (K : PySem.W.Frag) (t : TE2) : TE := fun σ H Q => ∃ F0 H0, upE K F0 H0 t noX σ H Q
theorem fr_keep {F H F' H' : Hp} {a : Addr} {o : HO} (gr : Gr F H F' H') (h : F a = none) (e : H a = some o) : F' a = none := by
  cases q : F' a with
  | none => rfl
  | some u => have z := gr.n a u q h; rw [e] at z; cases z
theorem comp_word {K : PySem.W.Frag} {F H : Hp} {σ : St} {Γ : G2} {J : It} {Hx : Hp} {ds : List D} {acc : Addr} {P : List D → Prop} {Q : V → Hp → Prop} (R : SR K F0 H0 F H σ Γ) (hJ : ItD K F Hx J ds) (hx : Same Hx H) (ha : H acc = none)
    (h : compR (oneR g tc te (capG own.length caps Γ)) ds P)
    (fin : ∀ ys F' H' vs, SR K F0 H0 F' H' σ Γ → Same F F' → H' acc = some (.lst vs) → F' acc = none → H0 acc = none → Reps K F' ys vs → Apart σ Γ acc → P ys → Q (.ref acc) H') :
    CompW acc J (mkσ own.length caps σ) (gX K g) (tX K tc) (eX K te) Q (upd H acc (.lst [])) := by
  obtain ⟨R1, e1, e2, e3, ap⟩ := new_lst (ds := []) (vs := []) R ha (by unfold Reps; rfl)
  have hx1 : Same Hx (upd H acc (.lst [])) := fun b u e => by rw [upd_ne (ne_of_none (hx b u e) ha)]; exact hx b u e
  have xa : ∀ u, Hx acc ≠ some u := fun u e => by rw [hx acc u e] at ha; cases ha
  refine ⟨fun i m vs H' => m = ds.length - i ∧ i ≤ ds.length ∧ ∃ F' ys, SR K F0 H0 F' H' σ Γ ∧ Same F F' ∧ Same Hx H' ∧ H' acc = some (.lst vs) ∧ F' acc = none ∧ Reps K F' ys vs ∧ vs.length ≤ i ∧ compR (oneR g tc te (capG own.length caps Γ)) (ds.drop i) (fun zs => P (ys ++ zs)),
    ⟨ds.length, by simp, Nat.zero_le _, F, [], R1, .refl _, hx1, e1, e2, by unfold Reps; rfl, Nat.le_refl _, by simpa using h⟩, ?_⟩
  rintro i m vs H' ⟨rfl, hi, F', ys, R', sF, hx', ha', fa', rs, lv, hc⟩
  have hz := hJ.1
  refine ⟨ha', by omega, ?_⟩
  obtain ⟨hstop, hgo⟩ := hJ.2 i H' F' sF R'.g hx'
  by_cases hlt : i < ds.length
  · obtain ⟨go, yl⟩ := hgo ds[i] (List.getElem?_eq_getElem hlt)
    refine .inr ⟨go, by omega, fun x H2 y => ?_⟩
    obtain ⟨F2, gr, rx⟩ := yl x H2 y
    rw [List.drop_eq_getElem_cons hlt] at hc
    have R2 := R'.grow gr
    refine ⟨F2, H2, F2, capG own.length caps Γ, _, ds[i], sr_block own.length caps R2, rx, hc, fun Γ3 F3 H3 σ3 R3 s3 q3 => ?_⟩
    refine ⟨F2, H2, F3, Γ3, _, R3, q3, fun b Γ4 F4 H4 R4 s4 q4 => ?_⟩
    have gr2 : Gr F' H' F4 H4 := gr.trans R4.gr
    cases b with
    | false =>
      rw [if_neg Bool.false_ne_true] at q4
      show ∃ m', m' < ds.length - i ∧ _
      refine ⟨ds.length - (i + 1), by omega, rfl, hlt, F4, ys, R'.grow gr2, sF.trans gr2.f, fun b u e => gr2.h b u (hx' b u e), gr2.h _ _ ha', fr_keep gr2 fa' ha', rs.up gr2.f, by omega, ?_⟩
      simpa using q4
    | true =>
      rw [if_pos rfl] at q4
      show eX K te σ3 H4 _
      refine ⟨F2, H2, F4, Γ4, _, R4, q4, fun d Γ5 F5 H5 v R5 s5 rv q5 => ?_⟩
      have gr3 : Gr F' H' F5 H5 := gr.trans R5.gr
      have a5 := gr3.h _ _ ha'
      have f5 := fr_keep gr3 fa' ha'
      refine ⟨a5, ds.length - (i + 1), by omega, rfl, hlt, F5, ys ++ [d], ?_, sF.trans gr3.f, fun b u e => ?_, upd_same, f5, reps_app (rs.up gr3.f) (reps_one rv), by simp; omega, ?_⟩
      · have R6 := R'.grow gr3
        have apx : ∀ (j : Nat) es, Γ[j]? = some (.ow es) → σ[j]? ≠ some (some (.ref acc)) := ap
        refine ⟨⟨R6.gr.f, fun b u e => ?_, fun b u e => ?_, R6.gr.n⟩, R6.len, fun j sl e => ?_, R6.ap⟩
        · rw [upd_ne (ne_of_none e f5)]; exact R6.g b u e
        · rw [upd_ne (ne_of_none e e3)]; exact R6.gr.h b u e
        · obtain ⟨o, p1, p2⟩ := R6.sl j sl e
          refine ⟨o, p1, ?_⟩
          cases sl with
          | no => trivial
          | pu d => exact p2
          | ow fs =>
            obtain ⟨c, ws, rfl, k1, k2, k3, k4⟩ := p2
            have : c ≠ acc := fun z => by subst z; exact apx j fs e p1
            exact ⟨c, ws, rfl, by rw [upd_ne this]; exact k1, k2, k3, k4⟩
      · rw [upd_ne (fun z => xa u (by rw [← z]; exact e))]; exact gr3.h b u (hx' b u e)
      · simpa [List.append_assoc] using q5
  · obtain rfl : i = ds.length := by omega
    refine .inl ⟨hstop rfl, fin ys F' H' vs R' sF ha' fa' e3 rs ap ?_⟩
    rw [List.drop_length] at hc
    simpa [compR] using hc
structure CpOk (N : List Str) (sc : Scope) (own : List Str) (caps : List Nat) (osc : Scope) (N' : List Str) : Prop where
  kind : sc.kind = .function
  nd : N'.Nodup
  snd : (sc.names.map (·.1)).Nodup
  free : ∀ p ∈ sc.names, p.2 = .free → osc.names.lookup p.1 = some .cell ∨ osc.names.lookup p.1 = some .free
  names : N' = own ++ caps.map fun j => N.getD j ""
  caps : ∀ j ∈ caps, j < N.length ∧ sc.names.lookup (N.getD j "") = some .free
theorem CpOk.cs (h : CpOk X.N sc own caps X.env.scope N') : CpScope X.N sc own caps X.env N' := ⟨h.kind, h.nd, h.snd, h.free, h.names, h.caps⟩
theorem qf_comp (S : CpOk X.N sc own caps X.env.scope N') (hc : X.calm = true) (hi : QIc X F0 H0 tg iter ti)
    (hg : ∀ C s₀ H₀ fp F0 H0, QG (blk X sc N' C s₀ H₀ fp) F0 H0 tg g) (ht : ∀ C s₀ H₀ fp F0 H0, QTs (blk X sc N' C s₀ H₀ fp) F0 H0 ifs tc) (he : ∀ C s₀ H₀ fp F0 H0, QE (blk X sc N' C s₀ H₀ fp) F0 H0 elt te)
    {n : Nat} (hn : own.length = n := by rfl) (hs : ∀ x, foldedSetIterable iter X.env x = pure x := by intro _; rfl) : QF X F0 H0 (.ListComp elt [⟨tg, iter, ifs, 0⟩] sc pos) (fComp n caps ti g tc te) := by
  subst hn
  intro z E cx pins s σ H Q I ⟨F, Γ, P, R, h, k⟩
  rw [show eval (.ListComp elt [⟨tg, iter, ifs, 0⟩] sc pos) (X.wsh z).env = comprehension (.ListComp elt [⟨tg, iter, ifs, 0⟩] sc pos) sc X.env _ (newList []) false (eval iter X.env) from eval_ListComp ..]
  refine comp_core (X := X.wsh z) (g := gX X.K g) (tc := tX X.K tc) (te := eX X.K te) (Q := Q) (CpOk.cs (X := X.wsh z) S) hc (hi z E cx) ?_ ?_ ?_ rfl hs I ?_ ?_
  · intro C s₀ H₀ fp pins s σ H v u Q I r ⟨F0', H0', q⟩
    exact hg C s₀ H₀ fp F0' H0' ⟨fun _ _ => False, []⟩ noX ctx_never pins s σ H v u Q I r q
  · intro C s₀ H₀ fp pins s σ H Q I ⟨F0', H0', q⟩
    exact ht C s₀ H₀ fp F0' H0' ⟨fun _ _ => False, []⟩ noX ctx_never pins s σ H Q I q
  · intro C s₀ H₀ fp pins s σ H Q I ⟨F0', H0', q⟩
    exact he C s₀ H₀ fp F0' H0' ⟨fun _ _ => False, []⟩ noX ctx_never pins s σ H Q I q
  · exact ⟨F, Γ, _, R, h, fun ds Γ1 F1 H1 J Hx R1 s1 hx hJ h1 acc ha => comp_word R1 hJ hx ha h1 fun ys F' H' vs R' sF a1 a2 a3 rs ap hp => k ys Γ1 F' H' acc vs R' (s1.trans sF) a1 a2 a3 rs ap hp⟩
  · intro acc C H' s5 I5 q5 ⟨m, hn⟩ c1 c2 c3 c4 c5 c6
    exact ⟨m, hn, fun h' hs' => ⟨.ref acc, H', I5.turned (t' := s5.toks) (it := C) (fun b o hb e => (hs'.2 b hb).trans e) c1 c2 (.inr c3) c4 c5, rfl, q5⟩⟩
theorem qs_setC {i : Nat} {y : Str} {py spos : Pos} (hN : X.N.Nodup) (hi' : X.N[i]? = some y) (hy : X.env.scope.names.lookup y = some .local) (S : CpOk X.N sc own caps X.env.scope N') (hc : X.calm = true) (hi : QIc X F0 H0 tg iter ti)
    (hg : ∀ C s₀ H₀ fp F0 H0, QG (blk X sc N' C s₀ H₀ fp) F0 H0 tg g) (ht : ∀ C s₀ H₀ fp F0 H0, QTs (blk X sc N' C s₀ H₀ fp) F0 H0 ifs tc) (he : ∀ C s₀ H₀ fp F0 H0, QE (blk X sc N' C s₀ H₀ fp) F0 H0 elt te)
    {n : Nat} (hn : own.length = n := by rfl) (hsw : swapsWith (.ListComp elt [⟨tg, iter, ifs, 0⟩] sc pos) (some (.Name y py)) spos.line X.env = pure true := by rfl) (hs : ∀ x, foldedSetIterable iter X.env x = pure x := by intro _; rfl) :
    QS X F0 H0 (.Assign [.Name y py] (.ListComp elt [⟨tg, iter, ifs, 0⟩] sc pos) spos) (cSetF i (fComp n caps ti g tc te)) := by
  subst hn
  intro z E cx pins s σ H Dn I ⟨F, Γ, D2, R, h, k⟩
  show wpAny _ _ (exec (.Assign [.Name y py] (.ListComp elt [⟨tg, iter, ifs, 0⟩] sc pos) spos) X.env) _ _ _
  rw [exec_Assign_Name_used _ _ _ _ hsw]
  refine wpAny_bind (wpAny_standAt (wpAny_bind ?_))
  show wpAny _ _ (do let _ ← comprehension (.ListComp elt [⟨tg, iter, ifs, 0⟩] sc pos) sc X.env _ (newList []) false (eval iter X.env) (some (assign (.Name y py) X.env))) _ _ s
  refine wpAny_bind (wpAny_mono (comp_core (X := X.wsh z) (use := some (assign (.Name y py) X.env)) (Qv := fun _ s' => SP (X.wsh z) pins Dn .next s') (g := gX X.K g) (tc := tX X.K tc) (te := eX X.K te) (Q := fun v H' => Dn.nx (σ.set i (some v)) H') (CpOk.cs (X := X.wsh z) S) hc (hi z E cx) ?_ ?_ ?_ rfl hs I ?_ ?_) (fun _ s' hq => wpAny_pure (wpAny_pure hq)) fun _ _ e => e)
  · intro C s₀ H₀ fp pins s σ H v u Q I r ⟨F0', H0', q⟩
    exact hg C s₀ H₀ fp F0' H0' ⟨fun _ _ => False, []⟩ noX ctx_never pins s σ H v u Q I r q
  · intro C s₀ H₀ fp pins s σ H Q I ⟨F0', H0', q⟩
    exact ht C s₀ H₀ fp F0' H0' ⟨fun _ _ => False, []⟩ noX ctx_never pins s σ H Q I q
  · intro C s₀ H₀ fp pins s σ H Q I ⟨F0', H0', q⟩
    exact he C s₀ H₀ fp F0' H0' ⟨fun _ _ => False, []⟩ noX ctx_never pins s σ H Q I q
  · exact ⟨F, Γ, _, R, h, fun ds Γ1 F1 H1 J Hx R1 s1 hx hJ h1 acc ha => comp_word R1 hJ hx ha h1 fun ys F' H' vs R' sF a1 a2 a3 rs ap hp => k.nx _ _ _ _ (R'.setOw i a1 a2 a3 rs ap) (s1.trans sF) hp⟩
  · intro acc C H' s5 I5 q5 ⟨m, hn⟩ c1 c2 c3 c4 c5 c6
    show wpAny _ _ (assign (.Name y py) X.env (.ref acc)) _ _ _
    refine wpAny_assign_Name (store_ok2 (X := X.wsh z) I5 hN hi' (.inl hy) (v := .ref acc) rfl (fun s6 I6 ⟨a, hsb, ha⟩ => ?_) (.inr hy))
    have ha' : a = X.env.locals ∨ X.env.cells.lookup y = some a := ha
    have hac : C ≠ a := by
      rcases ha' with rfl | ha'
      · exact c2
      · exact fun z => c4 y a ha' z.symm
    refine ⟨m, hn.sameBut hsb hac, fun h' hs' => ⟨_, H', I6.turned (t' := s6.toks) (it := C) (fun b o hb e => (hs'.2 b hb).trans e) c1 c2 (.inr c3) c4 c5, q5⟩⟩
end
end L3

namespace L3
open PySem PySem.Spec PyProof.Rows L2

def rUpN (K : PySem.W.Frag) (g : List D → (List D → Prop) → Prop) : List V → Hp → VK → Prop := fun vs H Q => ∃ F ds P, Same F H ∧ Reps K F ds vs ∧ g ds P ∧ ∀ es us l, Reps K F es us → H l = none → P es → Q (.ref l) (upd H l (.lst us))
section
variable {X : Cx} {F0 H0 : Hp} {a b e : Expr} {es : List Expr} {pos p p2 : Pos} {ta tb te : TE2} {t : TF2} {x : Str}
def fCB (g : List D → (List D → Prop) → Prop) (t : TF2) : TF2 := fun Γ P E => t Γ (fun ds Γ1 => g ds fun es => P es Γ1) E
theorem fCB_up {K : PySem.W.Frag} {g : List D → (List D → Prop) → Prop} {E : XW} {σ : St} {H : Hp} {Q : VK} (h : upF K F0 H0 (fCB g t) E σ H Q) : tCB (rUpN K g) (upA K F0 H0 t E) σ H Q := by
  obtain ⟨F, Γ, P, R, h, k⟩ := h
  refine ⟨F, Γ, _, R, h, fun ds Γ1 F1 H1 vs R1 s1 r1 h1 => ⟨F1, ds, _, R1.g, r1, h1, fun es us l r hl hp => ?_⟩⟩
  obtain ⟨R2, e1, e2, e3, ap⟩ := new_lst R1 hl r
  exact k es Γ1 F1 _ l us R2 s1 e1 e2 e3 r ap hp
theorem qf_callB {id : String} {g : List D → (List D → Prop) → Prop} (hc : ∀ z, CallR (X.wsh z) (.builtin id) (rUpN X.K g)) (hg : Gl X x) (hm : X.mg x = none) (hv : bootBuiltins x = some (.builtin id)) (ha : QA X F0 H0 (e :: es) t) (hn : x ≠ "__name__" := by decide) (hdb : (x == ("__debug__" : Str)) = false := by decide)
    (he : starEach (e :: es) X.env = (false, eval e X.env) :: starEach es X.env := by rfl) (hpl : (backTo pos (starEach es X.env)).any (·.1) = false := by rfl) : QF X F0 H0 (.Call (.Name x p) (e :: es) [] pos) (fCB g t) := fun z E cx =>
  peC (pe_callB (X := X.wsh z) (hc z) hg hm hv (ha z E cx) hn hdb he hpl) fun _ _ _ h => fCB_up h
theorem qf_callT {T : String} {g : List D → (List D → Prop) → Prop} (hc : ∀ z, CallR (X.wsh z) (.type T) (rUpN X.K g)) (hg : Gl X x) (hm : X.mg x = none) (hv : bootBuiltins x = some (.type T)) (ha : QA X F0 H0 (e :: es) t) (hn : x ≠ "__name__" := by decide) (hdb : (x == ("__debug__" : Str)) = false := by decide)
    (he : starEach (e :: es) X.env = (false, eval e X.env) :: starEach es X.env := by rfl) (hpl : (backTo pos (starEach es X.env)).any (·.1) = false := by rfl) : QF X F0 H0 (.Call (.Name x p) (e :: es) [] pos) (fCB g t) := fun z E cx =>
  peC (pe_callTy (X := X.wsh z) (hc z) hg hm hv (ha z E cx) hn hdb he hpl) fun _ _ _ h => fCB_up h
theorem qe_callT {T : String} {g : List D → (D → Prop) → Prop} (hc : ∀ z, CallR (X.wsh z) (.type T) (rUpA X.K g)) (hg : Gl X x) (hm : X.mg x = none) (hv : bootBuiltins x = some (.type T)) (ha : QA X F0 H0 (e :: es) t) (hn : x ≠ "__name__" := by decide) (hdb : (x == ("__debug__" : Str)) = false := by decide)
    (he : starEach (e :: es) X.env = (false, eval e X.env) :: starEach es X.env := by rfl) (hpl : (backTo pos (starEach es X.env)).any (·.1) = false := by rfl) : QE X F0 H0 (.Call (.Name x p) (e :: es) [] pos) (cCB g t) := fun z E cx =>
  peC (pe_callTy (X := X.wsh z) (hc z) hg hm hv (ha z E cx) hn hdb he hpl) fun _ _ _ h => cCB_up h
end

def n_list : List D → (List D → Prop) → Prop := fun ds P => match ds with | [.lst xs] => P xs | [.tup xs] => P xs | _ => False
theorem q_list {X : Cx} : CallR X (.type "list") (rUpN X.K n_list) := by
  intro pins s σ H xs us Q I r ⟨F, ds, P, sF, rs, h, k⟩
  unfold n_list at h
  split at h
  · unfold Reps Reps Rep at rs
    obtain ⟨v, _, rfl, ⟨p, vs, rfl, hq, rs⟩, rfl⟩ := rs
    exact call_list_of pins s σ H _ us Q I r ⟨p, vs, rfl, .inl (sF.seq hq), fun l hl => k _ _ l rs hl h⟩
  · unfold Reps Reps Rep at rs
    obtain ⟨v, _, rfl, ⟨p, vs, rfl, hq, rs⟩, rfl⟩ := rs
    exact call_list_of pins s σ H _ us Q I r ⟨p, vs, rfl, .inr (sqT_mono sF hq), fun l hl => k _ _ l rs hl h⟩
  · exact h.elim
def u_tuple : List D → (D → Prop) → Prop := fun ds P => match ds with | [.lst xs] => P (.tup xs) | [.tup xs] => P (.tup xs) | _ => False
def cutD (xs : List D) (lo hi : Option Int) : List D := (xs.drop (HT.sIx xs.length 0 lo)).take (HT.sIx xs.length xs.length hi - HT.sIx xs.length 0 lo)
abbrev TO2 := G2 → (Option Int → G2 → Prop) → XW → Prop
def upO (K : PySem.W.Frag) (F0 H0 : Hp) (t : TO2) (E : XW) : TO := fun σ H Q => ∃ F Γ P, SR K F0 H0 F H σ Γ ∧ t Γ P E ∧ ∀ o Γ' F' H', SR K F0 H0 F' H' σ Γ' → Same F F' → P o Γ' → Q o H'
def QO (X : Cx) (F0 H0 : Hp) (e : Option Expr) (t : TO2) : Prop := ∀ z E, Ctx (X.wsh z) F0 H0 E → PO (X.wsh z) e (upO X.K F0 H0 t E)
def oNo : TO2 := fun Γ P _ => P none Γ
def oIs (te : TE2) : TO2 := fun Γ P E => te Γ (fun d Γ1 => match d with | .int i => P (some i) Γ1 | _ => False) E
section
variable {X : Cx} {F0 H0 : Hp} {a b e : Expr} {es : List Expr} {pos p p2 : Pos} {ta tb te : TE2} {t : TF2} {x : Str} {lo hi : Option Expr} {tl th : TO2}
def fSl (te : TE2) (tl th : TO2) : TF2 := fun Γ P E => te Γ (fun d Γ1 => tl Γ1 (fun l Γ2 => th Γ2 (fun u Γ3 => match d with | .lst xs => P (cutD xs l u) Γ3 | _ => False) E) E) E
def fRev (te : TE2) : TF2 := fun Γ P E => te Γ (fun d Γ1 => match d with | .lst xs => P xs.reverse Γ1 | _ => False) E
end

section
variable {X : Cx}
def intsD : List D → Option (List Int)
  | [] => some []
  | .int i :: r => (intsD r).map (i :: ·)
  | _ :: _ => none
def blsD : List D → Option (List Bool)
  | [] => some []
  | .bl i :: r => (blsD r).map (i :: ·)
  | _ :: _ => none
def u_sum : List D → (D → Prop) → Prop := fun ds P => match ds with | [.lst xs] => ∃ ns, intsD xs = some ns ∧ P (.int ns.sum) | _ => False
def u_any : List D → (D → Prop) → Prop := fun ds P => match ds with | [.lst xs] => ∃ bs, blsD xs = some bs ∧ P (.bl (bs.any id)) | _ => False
def u_all : List D → (D → Prop) → Prop := fun ds P => match ds with | [.lst xs] => ∃ bs, blsD xs = some bs ∧ P (.bl (bs.all id)) | _ => False
def u_maxL : List D → (D → Prop) → Prop := fun ds P => match ds with | [.lst xs] => ∃ ns m, intsD xs = some ns ∧ m ∈ ns ∧ (∀ i ∈ ns, i ≤ m) ∧ P (.int m) | _ => False
def u_minL : List D → (D → Prop) → Prop := fun ds P => match ds with | [.lst xs] => ∃ ns m, intsD xs = some ns ∧ m ∈ ns ∧ (∀ i ∈ ns, m ≤ i) ∧ P (.int m) | _ => False
end
end L3

namespace L3
open PySem PySem.Spec PyProof.Rows L2

def frzS : Slot → Slot | .ow ds => .pu (.lst ds) | s => s
def frzG (Γ : G2) : G2 := Γ.map frzS
open Classical in
theorem sr_peek {K : PySem.W.Frag} {F0 H0 F H : Hp} {σ : St} {Γ : G2} (R : SR K F0 H0 F H σ Γ) : ∃ F1, Same F F1 ∧ SR K F1 H F1 H σ (frzG Γ) := by
  let F1 : Hp := fun b => if (F b).isSome then F b else if ∃ (j : Nat) (ds : List D), Γ[j]? = some (.ow ds) ∧ σ[j]? = some (some (.ref b)) then H b else none
  have s1 : Same F F1 := fun b u e => by show (if _ then _ else _) = _; rw [if_pos (by rw [e]; rfl)]; exact e
  have s2 : Same F1 H := fun b u e => by
    have e' : (if (F b).isSome then F b else if ∃ (j : Nat) (ds : List D), Γ[j]? = some (.ow ds) ∧ σ[j]? = some (some (.ref b)) then H b else none) = some u := e
    split at e'
    · exact R.g b u e'
    · split at e'
      · exact e'
      · cases e'
  have noow : ∀ (i : Nat) ds, (frzG Γ)[i]? ≠ some (.ow ds) := fun i ds e => by
    unfold frzG at e
    rw [List.getElem?_map] at e
    cases q : Γ[i]? with
    | none => rw [q] at e; cases e
    | some s => rw [q] at e; cases s <;> cases e
  refine ⟨F1, s1, ⟨Gr.refl s2, by rw [frzG, List.length_map]; exact R.len, fun i s e => ?_, fun i j a ds es e => absurd e (noow i ds)⟩⟩
  unfold frzG at e
  rw [List.getElem?_map] at e
  cases q : Γ[i]? with
  | none => rw [q] at e; cases e
  | some sl =>
    rw [q] at e
    obtain ⟨o, e1, r⟩ := R.sl i sl q
    refine ⟨o, e1, ?_⟩
    cases sl with
    | no => cases e; trivial
    | pu d => cases e; obtain ⟨v, rfl, rv⟩ := r; exact ⟨v, rfl, rv.up s1⟩
    | ow ds =>
      cases e
      obtain ⟨a, vs, rfl, h1, h2, h3, rs⟩ := r
      refine ⟨.ref a, rfl, ?_⟩
      unfold Rep
      refine ⟨a, vs, rfl, .inl (.inl ?_), rs.up s1⟩
      show (if (F a).isSome then F a else if ∃ (j : Nat) (ds : List D), Γ[j]? = some (.ow ds) ∧ σ[j]? = some (some (.ref a)) then H a else none) = _
      rw [if_neg (by rw [h2]; exact Bool.false_ne_true), if_pos ⟨i, ds, q, e1⟩]
      exact h1
theorem sr_unpeek {K : PySem.W.Frag} {F0 H0 F H H' : Hp} {σ : St} {Γ : G2} (R : SR K F0 H0 F H σ Γ) (s : Same H H') : SR K F0 H0 F H' σ Γ := by
  refine R.grow ⟨.refl _, fun b u e => s b u (R.g b u e), s, fun b o e n => by rw [e] at n; cases n⟩
def scD : D → Prop | .non => True | .bl _ => True | .int _ => True | .str _ => True | _ => False
def cPeek (te : TE2) : TE2 := fun Γ P _ => te (frzG Γ) (fun d _ => scD d ∧ P d Γ) noX
def cPeekT (t : TT2) : TT2 := fun Γ P _ => t (frzG Γ) (fun b _ => P b Γ) noX
section
variable {X : Cx} {F0 H0 : Hp} {e : Expr} {te : TE2} {tt : TT2}
theorem ctx_peek {E : XW} {F1 H1 : Hp} (cx : Ctx X F0 H0 E) : Ctx X F1 H1 noX :=
  ⟨fun _ _ _ _ _ _ _ _ _ _ h => by obtain ⟨_, _, _, _, _, _, _, _, _, _, _, _, h, _⟩ := h; exact h.elim, cx.po⟩
theorem qt_peek (h : ∀ F0 H0, QT X F0 H0 e tt) : QT X F0 H0 e (cPeekT tt) := fun z E cx => by
  intro pins s σ H Q I ⟨F, Γ, P, R, q, k⟩
  obtain ⟨F1, s1, R1⟩ := sr_peek R
  exact h F1 H z noX (ctx_peek cx) pins s σ H Q I ⟨F1, frzG Γ, _, R1, q, fun b Γ' F' H' R' s' hp => k b Γ F H' (sr_unpeek R R'.gr.h) (.refl _) hp⟩
def cIxO (i : Nat) (te : TE2) : TE2 := fun Γ P E => (∃ xs, Γ[i]? = some (.ow xs)) ∧ te Γ (fun k Γ1 => match k, Γ1[i]? with | .int k, some (.ow ds) => ∃ d, atI ds k = some d ∧ P d Γ1 | _, _ => False) E
end

def OwR (X : Cx) (id : String) (g : List D → List D → (List D → Prop) → Prop) : Prop :=
  ∀ (pins : List (Addr × Obj)) (s : Shared) (σ : St) (F H : Hp) (l : Addr) (vs args : List V) (xs ds : List D) (us : List Value) (P : List D → Prop) (Q : VK), Inv X pins σ H s → H l = some (.lst vs) → Same F H → Reps X.K F xs vs → Reps X.K F ds args → Vals args us → g xs ds P →
    (∀ ys ws, Reps X.K F ys ws → P ys → Q .non (upd H l (.lst ws))) → wpAny (model X.prog X.w) X.A (call (.builtin id) (.ref l :: us)) (EP X pins σ Q) X.xe s
def w_append : List D → List D → (List D → Prop) → Prop := fun xs ds P => match ds with | [d] => xs.length < sizeLine ∧ P (xs ++ [d]) | _ => False
def insD (xs : List D) (k : Nat) (d : D) : List D := xs.take k ++ d :: xs.drop k
def w_insert : List D → List D → (List D → Prop) → Prop := fun xs ds P => match ds with | [.int k, d] => 0 ≤ k ∧ k ≤ xs.length ∧ xs.length < sizeLine ∧ P (insD xs k.toNat d) | _ => False
def w_extend : List D → List D → (List D → Prop) → Prop := fun xs ds P => match ds with | [.lst ys] => xs.length + ys.length ≤ sizeLine ∧ P (xs ++ ys) | _ => False
def w_reverse : List D → List D → (List D → Prop) → Prop := fun xs ds P => match ds with | [] => P xs.reverse | _ => False
def w_clear : List D → List D → (List D → Prop) → Prop := fun xs ds P => match ds with | [] => P [] | _ => False
section
variable {X : Cx}
theorem ow_append : OwR X "list.append" w_append := by
  intro pins s σ F H l vs args xs ds us P Q I hl sF rs ra rv h k
  unfold w_append at h
  split at h
  · unfold Reps Reps at ra
    obtain ⟨v, _, rfl, rd, rfl⟩ := ra
    exact mt_append pins s σ H (.ref l) [v] (.ref l) us Q I rfl rv ⟨l, vs, v, rfl, rfl, hl, by rw [← reps_len rs]; exact h.1, k _ _ (reps_app rs (reps_one rd)) h.2⟩
  · exact h.elim
end
section
variable {X : Cx} {F0 H0 : Hp} {x name : Str} {apos cpos npos pos : Pos} {e : Expr} {es : List Expr} {id : String} {i : Nat} {t : TF2} {g : List D → List D → (List D → Prop) → Prop}
def cOw (i : Nat) (g : List D → List D → (List D → Prop) → Prop) (t : TF2) : TS2 := fun D Γ E => (∃ xs, Γ[i]? = some (.ow xs)) ∧ t Γ (fun ds Γ1 => match Γ1[i]? with | some (.ow xs) => g xs ds fun ys => D.nx (Γ1.set i (.ow ys)) | _ => False) E
theorem own_step {z : Wsh} {σ : St} {F Fa H Ha : Hp} {Γ Γ1 : G2} {xs : List D} {a : Addr} {D2 : End2} {Dn : Ends} {vs args : List V} {ds : List D} (_R : SR X.K F0 H0 F H σ Γ) (R1 : SR X.K F0 H0 Fa Ha σ Γ1) (s1 : Same F Fa) (k : EndR X.K F0 H0 F D2 Dn) (e1 : σ[i]? = some (some (.ref a)))
    (q : match Γ1[i]? with | some (.ow xs) => g xs ds fun ys => D2.nx (Γ1.set i (.ow ys)) | _ => False) :
    ∃ vs xs P, Ha a = some (.lst vs) ∧ Reps X.K Fa xs vs ∧ g xs ds P ∧ ∀ ys ws, Reps X.K Fa ys ws → P ys → Dn.nx σ (upd Ha a (.lst ws)) := by
  split at q
  · rename_i xs e
    obtain ⟨o, e2, a', vs, rfl, g1, g2, g3, r⟩ := R1.sl i _ e
    rw [e1] at e2; cases e2
    exact ⟨vs, xs, _, g1, r, q, fun ys ws rw' hp => k.nx _ _ _ _ (R1.wr e e1 rw') s1 hp⟩
  · exact q.elim
theorem qs_own (hr : ∀ z, OwR (X.wsh z) id g) (slot : PySem.Slot "list" name id) (hty : typeOf (.builtin id) = pure (.type "method_descriptor")) (hN : X.N[i]? = some x) (hv : Vis X.env.scope x) (ha : QA X F0 H0 (e :: es) t)
    (hd : (x == ("__debug__" : Str)) = false := by decide) (hcd : (x == ("__classdict__" : Str)) = false := by decide)
    (hbase : attributeBase (.Name x npos) name X.env (eval (.Name x npos) X.env) = eval (.Name x npos) X.env := by rfl)
    (hfew : ((backTo cpos (starEach (e :: es) X.env)).all (fun x => !x.1) && (backToKw cpos (keywordEach [] X.env)).all (fun x => x.1.isSome)
      && decide ((e :: es).length + ([] : List Keyword).length + (if ([] : List Keyword).isEmpty then 0 else 1) < 30)) = true := by rfl)
    (hline : (apos.endLine == cpos.line) = true := by rfl) (hs : starEach (e :: es) X.env = (false, eval e X.env) :: starEach es X.env := by rfl) (hplain : (backTo cpos (starEach es X.env)).any (·.1) = false := by rfl)
    (hsw : swapsWith (.Call (.Attribute (.Name x npos) name apos) (e :: es) [] cpos) none pos.line X.env = pure false := by rfl) :
    QS X F0 H0 (.Expr (.Call (.Attribute (.Name x npos) name apos) (e :: es) [] cpos) pos) (cOw i g t) := by
  intro z E cx
  refine psC (ps_expr (X := X.wsh z) (te := fun σ H Q => tVar i σ H fun v H1 => tyV X.K "list" v H1 ∧ upA X.K F0 H0 t E σ H1 fun vs H2 => ∃ l xs ws F Pd ds, v = .ref l ∧ H2 l = some (.lst ws) ∧ Same F H2 ∧ Reps X.K F xs ws ∧ Reps X.K F ds vs ∧ g xs ds Pd ∧ ∀ ys us, Reps X.K F ys us → Pd ys → Q .non (upd H2 l (.lst us))) ?_ hsw) ?_
  · refine pe_bm (X := X.wsh z) (T := "list") (id := id) (r := fun v vs H2 Q => ∃ l xs ws F Pd ds, v = .ref l ∧ H2 l = some (.lst ws) ∧ Same F H2 ∧ Reps X.K F xs ws ∧ Reps X.K F ds vs ∧ g xs ds Pd ∧ ∀ ys us, Reps X.K F ys us → Pd ys → Q .non (upd H2 l (.lst us)))
      PySem.F.plainAttrs_list slot hty ?_ (pe_var (X := X.wsh z) (i := i) hN hv hd hcd) (ha z E cx) hbase hfew hline hs hplain
    intro pins s σ H x xs v us Q I rx rs ⟨l, ys, ws, Fz, Pd, ds, e1, h1, h2, h3, h4, h5, h6⟩
    subst e1
    cases rx
    exact hr z pins s σ Fz H l ws xs ys ds us Pd Q I h1 h2 h3 h4 rs h5 h6
  · intro Dn σ H ⟨F, Γ, D2, R, ⟨⟨xs, e0⟩, h⟩, k⟩
    obtain ⟨o, e1, a, vs, rfl, h1, h2, h3, r⟩ := R.sl i _ e0
    refine ⟨.ref a, e1, .inl ⟨rfl, vs, .inl (.inl h1)⟩, F, Γ, _, R, h, fun ds Γ1 F1 H1 us R1 s1 r1 q1 => ?_⟩
    obtain ⟨ws, ys, P, g1, g2, g3, g4⟩ := own_step (z := z) (vs := vs) (args := us) (xs := xs) R R1 s1 k e1 q1
    exact ⟨a, ys, ws, F1, P, ds, rfl, g1, R1.g, g2, r1, g3, g4⟩
end
end L3

namespace L3
open PySem PySem.Spec PyProof.Rows L2
section
variable {X : Cx} {F0 H0 : Hp} {st : Stmt} {i : Nat} {t : TF2}
theorem qs_frz (h : QS X F0 H0 st (cSetF i t)) : QS X F0 H0 st (cSet i (cOf t)) := fun z E cx =>
  psC (h z E cx) fun Dn σ H ⟨F, Γ, D2, R, q, k⟩ => by
    have key : (fun (ds : List D) (Γ1 : G2) => (match (Γ1.set i (.ow ds))[i]? with | some (.ow ds') => D2.nx ((Γ1.set i (.ow ds)).set i (.pu (.lst ds'))) | _ => D2.nx (Γ1.set i (.ow ds)))) = fun ds Γ1 => D2.nx (Γ1.set i (.pu (.lst ds))) := by
      funext ds Γ1
      by_cases hi : i < Γ1.length
      · rw [List.getElem?_set_self hi]
        dsimp only
        rw [List.set_set]
      · rw [List.getElem?_eq_none (by simpa using hi)]
        dsimp only
        rw [List.set_eq_of_length_le (by omega), List.set_eq_of_length_le (by omega)]
    refine ⟨F, Γ, { D2 with nx := fun Γ' => match Γ'[i]? with | some (.ow ds) => D2.nx (Γ'.set i (.pu (.lst ds))) | _ => D2.nx Γ' }, R, ?_, ⟨fun Γ' F' H' σ' R' s' q' => ?_, k.bk, k.ct, k.rt, k.rf⟩⟩
    · show t Γ _ E
      dsimp only
      rw [key]
      exact q
    · dsimp only at q'
      split at q'
      · rename_i ds e
        obtain ⟨a, F2, _, s2, R2, _⟩ := R'.frz e
        exact k.nx _ _ _ _ R2 (s'.trans s2) q'
      · exact k.nx _ _ _ _ R' s' q'
end
def fCat (t u : TE2) : TF2 := fun Γ P E => t Γ (fun d Γ1 => u Γ1 (fun d' Γ2 => match d, d' with | .lst xs, .lst ys => xs.length + ys.length ≤ sizeLine ∧ P (xs ++ ys) Γ2 | _, _ => False) E) E
section
variable {X : Cx} {F0 H0 : Hp} {a b c : Expr} {pos : Pos} {ta tb tc : TE2}
theorem cat_lists {M : Program} {w : World} {A : Around} {E : Value → Shared → Prop} {s : Shared} {l b : Addr} {vs ws : List Value} {Q : Value → Shared → Prop} (hl : s.heap.IsList l vs.toArray) (hb : s.heap.IsList b ws.toArray)
    (h : Q (.ref s.heap.objs.size) { s with heap := s.heap.push { cls := .type "list", data := .seq (vs ++ ws).toArray } }) (hsz : vs.length + ws.length ≤ sizeLine) : wpAny (model M w) A (binaryOp .Add (.ref l) (.ref b)) Q E s := by
  obtain ⟨⟨cls, dd, data, sl⟩, ho, hc, n, hd⟩ := id hl
  obtain ⟨⟨cls2, dd2, data2, sl2⟩, ho2, hc2, n2, hd2⟩ := id hb
  simp only at hc hd hc2 hd2
  subst hc hd hc2 hd2
  have e : vs.toArray ++ ws.toArray = (vs ++ ws).toArray := by simp
  refine concat_meets ⟨_, ho, rfl⟩ ⟨_, ho2, rfl⟩ noFill_list_add seq_list_add PySem.F.slot_list_add PySem.F.entry_list_add (PySem.F.args_list_add_2 _ _) (list_addW l b vs.toArray ws.toArray n n2 dd dd2 sl sl2 (by simpa using hsz)) ⟨ho, ho2, ?_⟩
  rw [e]
  exact h
theorem qf_cat (ha : QE X F0 H0 a ta) (hb : QE X F0 H0 b tb) : QF X F0 H0 (.BinOp a .Add b pos) (fCat ta tb) := fun z E cx =>
  peC (pe_op (X := X.wsh z) (r := fun x y H Q => ∃ p q xs ys, x = .ref p ∧ y = .ref q ∧ SqL X.K H p xs ∧ SqL X.K H q ys ∧ xs.length + ys.length ≤ sizeLine ∧ ∀ l, H l = none → Q (.ref l) (upd H l (.lst (xs ++ ys)))) (by
    intro pins s σ H x y v u Q I rx ry ⟨p, q, xs, ys, e1, e2, h1, h2, hz, k⟩
    subst e1 e2
    cases rx; cases ry
    obtain ⟨its, r, pl, _⟩ := I.list h1
    obtain ⟨its2, r2, pl2, _⟩ := I.list h2
    have l1 := r.length
    have l2 := r2.length
    refine cat_lists pl.isList pl2.isList ?_ (by omega)
    exact ⟨.ref _, _, I.lnew (t' := s.toks) (r.append r2) (by rw [List.length_append]; omega), rfl, k _ I.fresh⟩) (ha z E cx) (hb z E cx)) fun σ H Q ⟨F, Γ, P, R, h, k⟩ => ⟨F, Γ, _, R, h, fun d1 Γ1 F1 H1 v1 R1 s1 r1 h1 => ⟨F1, Γ1, _, R1, h1, fun d2 Γ2 F2 H2 v2 R2 s2 r2 h2 => by
      cases d1 with
      | lst xs =>
        cases d2 with
        | lst ys =>
          have r1' := r1.up s2
          unfold Rep at r1' r2
          obtain ⟨p, vs, rfl, hq, rs⟩ := r1'
          obtain ⟨q, ws, rfl, hq2, rs2⟩ := r2
          refine ⟨p, q, vs, ws, rfl, rfl, R2.g.seq hq, R2.g.seq hq2, by rw [← reps_len rs, ← reps_len rs2]; exact h2.1, fun l hl => ?_⟩
          have ra := reps_app rs rs2
          obtain ⟨R3, e1, e2, e3, ap⟩ := new_lst R2 hl ra
          exact k _ Γ2 F2 _ l _ R3 (s1.trans s2) e1 e2 e3 ra ap h2.2
        | _ => exact False.elim h2
      | _ => exact False.elim h2⟩⟩
def flD : D → Bool | .non => true | .bl _ => true | .int _ => true | .str _ => true | _ => false
def eqD : D → D → Bool
  | .non, .non => true
  | .bl a, .bl b => a == b
  | .bl a, .int b => (if a then 1 else 0) == b
  | .int a, .bl b => a == (if b then 1 else 0)
  | .int a, .int b => a == b
  | .str a, .str b => a == b
  | _, _ => false
def inD (x : D) (xs : List D) : Bool := xs.any fun y => eqD y x
def gIn (neg : Bool) : D → D → (D → Prop) → Prop := fun x y P => match y with
  | .lst xs => flD x = true ∧ xs.all flD = true ∧ P (.bl (if neg then !inD x xs else inD x xs))
  | .tup xs => flD x = true ∧ xs.all flD = true ∧ P (.bl (if neg then !inD x xs else inD x xs))
  | _ => False
def cChain (g g' : D → D → (D → Prop) → Prop) (ta tb tc : TE2) : TE2 := fun Γ P E => ta Γ (fun x Γ1 => tb Γ1 (fun y Γ2 => g x y fun r => match r with
  | .bl k => if k = true then tc Γ2 (fun w Γ3 => g' y w fun d => P d Γ3) E else P (.bl false) Γ2
  | _ => False) E) E
end
section
variable {X : Cx} {F0 H0 : Hp} {tg a b : Expr} {t : TF2} {p pc : Pos}
theorem itd_rng {K : PySem.W.Frag} {F Hx : Hp} {lo : Int} {n : Nat} (hn : n ≤ sizeLine) : ItD K F Hx (Itr lo n) ((List.range n).map fun (k : Nat) => .int (lo + k)) := by
  refine ⟨by simpa using hn, fun i H1 F1 s1 s2 s3 => ⟨fun e => by simp at e; exact Nat.le_of_eq e.symm, fun d hd => ?_⟩⟩
  rw [List.getElem?_map] at hd
  cases q : (List.range n)[i]? with
  | none => rw [q] at hd; cases hd
  | some k =>
    rw [q] at hd
    obtain ⟨hi, e⟩ := List.getElem?_eq_some_iff.mp q
    rw [List.getElem_range] at e
    subst e
    cases hd
    refine ⟨(by simpa using hi : i < n), fun x H' y => ?_⟩
    obtain ⟨rfl, rfl⟩ := y
    exact ⟨F1, Gr.refl s2, by unfold Rep; rfl⟩
def iRg1 (t : TF2) : TF2 := fun Γ P E => t Γ (fun ds Γ1 => match ds with | [.int j] => (-(2 ^ 62) ≤ j ∧ j < 2 ^ 62) ∧ j.toNat ≤ sizeLine ∧ P ((List.range j.toNat).map fun (k : Nat) => .int (0 + k)) Γ1 | _ => False) E
def iRg2 (t : TF2) : TF2 := fun Γ P E => t Γ (fun ds Γ1 => match ds with | [.int i, .int j] => (-(2 ^ 62) ≤ i ∧ i < 2 ^ 62 ∧ -(2 ^ 62) ≤ j ∧ j < 2 ^ 62) ∧ (j - i).toNat ≤ sizeLine ∧ P ((List.range (j - i).toNat).map fun (k : Nat) => .int (i + k)) Γ1 | _ => False) E
theorem qi_rng1 (hgl : Gl X "range") (hm : X.mg "range" = none) (ha : QA X F0 H0 [a] t) (hst : starEach [a] X.env = [(false, eval a X.env)] := by rfl) : QI X F0 H0 tg (.Call (.Name "range" p) [a] [] pc) (iRg1 t) := fun z E cx =>
  piC (pi_range1 (X := X.wsh z) hgl hm (ha z E cx) hst) fun σ H R ⟨F, Γ, P, S, h, k⟩ => ⟨F, Γ, _, S, h, fun ds Γ1 F1 H1 vs R1 s1 r1 h1 => by
    split at h1
    · rename_i j
      unfold Reps Reps Rep at r1
      obtain ⟨v, _, rfl, rfl, rfl⟩ := r1
      exact ⟨j, rfl, h1.1.1, h1.1.2, k _ Γ1 F1 H1 _ R1 s1 (itd_rng h1.2.1) h1.2.2⟩
    · exact False.elim h1⟩
end
def relabelS (sc osc : Scope) : Scope := { sc with names := sc.names.map fun (n, k) => if (k == .free && osc.kind == .function && osc.names.lookup n == some .cell) then (n, .cell) else (n, k) }
end L3

namespace L3
open PySem PySem.Spec PyProof.Rows L2

section
variable {X : Cx} {F0 H0 : Hp} {x : Str} {pos : Pos} {d : D}
def Glb (K : PySem.W.Frag) (mg : Str → Option Value) (x : Str) (d : D) : Prop := ∃ v u, mg x = some u ∧ RelV v u ∧ ∀ F, Rep K F d v
end

structure FunD (K : PySem.W.Frag) (x qual : Str) (st : Stmt) (f : Addr) (fd : FuncData) (dV : Value) : Prop where
  ex : ∃ (oc : Value) (od : Option Addr) (kV doc pm : Value) (an : Option Addr) (cdv ct : Value) (osl : Array (Option Value)),
    fd = PySem.W.fnOf x qual (defArgs st) (defBody st) (defScope st) dV kV doc pm an cdv ct ∧ K.lookup f = some ⟨oc, od, .func fd, osl⟩ ∧ PySem.W.codeIn K cdv qual = true
  kp : PySem.W.keepIn K (.ref f) = true
section
variable {P : Program} {w : World} {K : PySem.W.Frag} {mg : Str → Option Value} {base : Heap}
structure Fn2N (P : Program) (w : World) (K : PySem.W.Frag) (mg : Str → Option Value) (base : Heap) (x : Str) (k : Nat) (ps : List Str) (sp : Sp2) : Prop where
  ex : ∃ f fd, FnOk P w K mg base (CX1 P w) k f fd ps (spUp K sp) ∧ mg x = some (.ref f) ∧ PySem.W.keepIn K (.ref f) = true ∧ Binds K fd ps [] ∧ Binds K fd ps [.none]
end
def cCallN (sp : Sp2) (t : TF2) : TE2 := fun Γ P E => t Γ (fun ds Γ1 => sp (ds ++ [.non]) (fun d => P d Γ1) fun C => E Γ1 C) E
section
variable {X : Cx} {F0 H0 : Hp} {e : Expr} {es : List Expr} {pos p : Pos} {x : Str} {ps : List Str} {k : Nat} {sp : Sp2} {t : TF2}
end

def VE (K : PySem.W.Frag) (C : Addr) : Prop := PySem.W.kitOne K (.ref C) (.type "ValueError") = some true
def cIsv (K : PySem.W.Frag) (ta : TE2) : TE2 := fun Γ P E => ta Γ (fun d Γ1 => match d with | .exc C0 => (ExcC K C0 ∧ ExcG K C0 ∧ VE K C0) ∧ P (.bl true) Γ1 | _ => False) E
def cIst (K : PySem.W.Frag) (Cs : List Addr) (ta : TE2) : TE2 := fun Γ P E => ta Γ (fun d Γ1 => match d with | .exc C0 => (ExcC K C0 ∧ ExcG K C0) ∧ P (.bl (Cs.any fun C => excSub K C0 C)) Γ1 | _ => False) E
theorem kit_any {K : PySem.W.Frag} {C : Addr} (q : ExcC K C) : ∀ {Cs : List Addr}, (∀ D ∈ Cs, clsB K D = true) → PySem.W.kitAny K (.ref C) (Cs.map .ref) = some (Cs.any fun D => excSub K C D)
  | [], _ => rfl
  | D :: Cs, h => by
    rw [List.map_cons]
    unfold PySem.W.kitAny
    rw [kit_exc q (h D List.mem_cons_self), List.any_cons]
    cases e : excSub K C D with
    | true => rfl
    | false => simp only [Bool.false_or]; exact kit_any q fun B hB => h B (List.mem_cons_of_mem _ hB)
def PCl (X : Cx) (es : List Expr) (Cs : List Addr) : Prop := ∀ z, PA (X.wsh z) es fun _ H Q => Q (Cs.map V.ref) H
section
variable {X : Cx} {F0 H0 : Hp} {a : Expr} {pos p pt : Pos} {ta : TE2} {x : Str} {C : Addr} {es : List Expr} {Cs : List Addr}
theorem pcl_nil : PCl X [] [] := fun z => paC pa_nil fun _ _ _ h => h
theorem pcl_cons (hgT : Gl X x) (hT : X.mg x = some (.ref C)) (h : PCl X es Cs) (hd : (x == ("__debug__" : Str)) = false := by decide) (hs : starEach (.Name x pt :: es) X.env = (false, eval (.Name x pt) X.env) :: starEach es X.env := by rfl) : PCl X (.Name x pt :: es) (C :: Cs) := fun z =>
  paC (pa_cons (X := X.wsh z) (pe_glob (X := X.wsh z) (v := .ref C) hgT hT rfl hd) (h z) hs) fun _ _ _ h => h
theorem qe_ist {kt} (hT : PCl X es Cs) (hE : ∀ C ∈ Cs, clsB X.K C = true) (ha : QE X F0 H0 a ta) (hg : Gl X "isinstance") (hm : X.mg "isinstance" = none)
    (he : starEach [a, .Tuple es kt pt] X.env = (false, eval a X.env) :: starEach [.Tuple es kt pt] X.env := by rfl) (he2 : starEach [.Tuple es kt pt] X.env = [(false, eval (.Tuple es kt pt) X.env)] := by rfl) (hl : Cs.length ≤ sizeLine := by decide) :
    QE X F0 H0 (.Call (.Name "isinstance" p) [a, .Tuple es kt pt] [] pos) (cIst X.K Cs ta) := fun z E cx => by
  refine peC (pe_callB (X := X.wsh z) (id := "isinstance") (r := fun vs H Q => ∃ (F : Hp) (C0 t : Addr) (x : V) (P : Bool → Prop), vs = [x, .ref t] ∧ Same F H ∧ Rep X.K F (.exc C0) x ∧ H t = some (.tup (Cs.map .ref)) ∧ (ExcC X.K C0 ∧ ExcG X.K C0) ∧ P (Cs.any fun C => excSub X.K C0 C) ∧ ∀ b, P b → Q (.bl b) H) ?_ hg hm boot_isinstance
    (pa_cons (ha z E cx) (pa_cons (pe_tup (hT z)) pa_nil (by rw [he2]; rfl)) he) (by decide) (by decide) he (by rw [he2]; rfl)) fun σ H Q ⟨F, Γ, P, R, h, k⟩ => ?_
  · intro pins s σ H xs us Q I r ⟨F, C0, t, y, P, e1, sF, rd, ht, hx, hb, k⟩
    subst e1
    obtain ⟨u, w, rfl, ru, rw'⟩ := vals2 r
    obtain rfl : w = Value.ref t := rw'
    unfold Rep at rd
    obtain ⟨b, rfl, eb⟩ := rd
    cases ru
    obtain ⟨⟨o, vs, g1, g2, _⟩, _⟩ := I.hok b _ (sF _ _ eb)
    obtain ⟨_, its, rv, ⟨ot, j1, j2, n, j3⟩⟩ := I.hok t _ ht
    have hits : its = Cs.map Value.ref := by
      have : ∀ {l : List Addr} {us : List Value}, Vals (l.map .ref) us → us = l.map Value.ref := by
        intro l
        induction l with
        | nil => intro us r; cases r; rfl
        | cons c l ih =>
          intro us r
          rw [List.map_cons] at r
          cases r with
          | cons r1 r2 => cases r1; rw [ih r2]; rfl
      exact this rv
    subst hits
    obtain ⟨oc, od, odt, osl⟩ := ot
    dsimp only at j2 j3
    subst j2 j3
    exact PySem.W.kia_tup (kitx_exc hx.1 hx.2) I.kIn ⟨o, g1, g2⟩ j1 (kit_any hx.1 hE) (fun z => nomatch z) fun tk => ⟨.bl _, H, I.tok tk, rfl, k _ hb⟩
  · refine ⟨F, Γ, _, R, h, fun d Γ1 F1 H1 v R1 s1 r1 h1 => ⟨by rw [List.length_map]; exact hl, fun t ht => ?_⟩⟩
    cases d with
    | exc C0 =>
      have gr := Gr.laid (o := HO.tup (Cs.map .ref)) R1.g ht
      refine ⟨_, C0, t, v, fun b => P (.bl b) Γ1, rfl, gr.g, r1.up gr.f, upd_same, h1.1, h1.2, fun b hp => k _ _ _ _ _ (R1.grow gr) (s1.trans gr.f) (by unfold Rep; rfl) hp⟩
    | _ => exact False.elim h1
end
end L3

namespace L3
open PySem PySem.Spec PyProof.Rows L2

theorem turnedL {X : Cx} {pins : List (Addr × Obj)} {σ : St} {H : Hp} {s : Shared} {h' : Heap} {t' : Nat} {fp : List Addr} (I : Inv X pins σ H s) (k : ∀ b o, b ∉ fp → s.heap.get? b = some o → h'.get? b = some o) (hf : ∀ b ∈ fp, FpOk X pins H b) : Inv X pins σ H { s with heap := h', toks := t' } := by
  have nit : ∀ b u, H b = some u → b ∉ fp := fun b u e z => by rw [(hf b z).1] at e; cases e
  refine I.step (g' := s.gens) (d' := s.drawn) (ch := fp) (fun b hb => ?_) (fun b o _ _ hc e _ => k b o hc e) (fun b o _ _ hc e _ => ⟨o.slots, k b o hc e⟩) (fun _ _ _ _ n => n) (fun b o hc e => ⟨o, k b o hc e⟩) (fun _ _ e => e) (fun _ _ _ e => e) (fun b ps e => ⟨#[], by rw [e]; simp⟩) (fun m hm => ?_) (fun b u e => ?_) I.bare
  · obtain ⟨f0, f1, f2, f3, f4, f5⟩ := hf b hb
    exact ⟨f3, f1, f4, f5⟩
  · obtain ⟨o, es, ep, ho, r⟩ := hm
    exact ⟨o, es, ep, k _ o (fun z => (hf _ z).2.1 rfl) ho, r⟩
  · refine (I.hok b u e).stay (fun c v hc q => k c v ?_ q) (fun _ q => q) fun _ _ q => q
    rcases hc with z | z
    · rw [z]; exact nit b u e
    · exact nit c _ z
theorem fpOk_upd {X : Cx} {pins : List (Addr × Obj)} {H : Hp} {b a : Addr} {o : HO} (h : FpOk X pins H b) (hb : b ≠ a) : FpOk X pins (upd H a o) b := ⟨by rw [upd_ne hb]; exact h.1, h.2⟩
theorem turnedT {X : Cx} {pins : List (Addr × Obj)} {σ : St} {H : Hp} {s : Shared} {h' : Heap} {t' : Nat} {fp : List Addr} {xs : List V} {its : List Value} (I : Inv X pins σ H s) (k : ∀ b o, b ∉ fp → s.heap.get? b = some o → h'.get? b = some o)
    (hlt : ∀ b ∈ fp, b < s.heap.objs.size) (ht : h'.get? s.heap.objs.size = some { cls := .type "tuple", data := .seq its.toArray }) (hv : Vals xs its) (hz : xs.length ≤ sizeLine) (hf : ∀ b ∈ fp, FpOk X pins H b) :
    Inv X pins σ (upd H s.heap.objs.size (.tup xs)) { s with heap := h', toks := t' } := by
  have I1 : Inv X pins σ (upd H s.heap.objs.size (.tup xs)) { s with heap := s.heap.push { cls := .type "tuple", data := .seq its.toArray }, toks := s.toks } :=
    I.laid (t' := s.toks) (fun b o e => Heap.get?_push_of_some _ e) (Nat.le_refl _) (show ObjOk X.prog X.w _ _ _ (.tup xs) from ⟨hz, its, hv, IsTup.new _ _⟩)
  refine turnedL (s := { s with heap := s.heap.push { cls := .type "tuple", data := .seq its.toArray }, toks := s.toks }) (fp := fp) I1 (fun b o hb e => ?_) fun b hb => fpOk_upd (hf b hb) (Nat.ne_of_lt (hlt b hb))
  rcases Heap.get?_push_cases e with ⟨rfl, rfl⟩ | e
  · exact ht
  · exact k b o hb e

def Ite (K : PySem.W.Frag) (a : Addr) : It :=
  ⟨fun i H => ∃ xs x, SqL K H a xs ∧ xs[i]? = some x, fun i H x H' => ∃ b v, x = .ref b ∧ H b = none ∧ H' = upd H b (.tup [.int i, v]) ∧ ∀ xs, SqL K H a xs → xs[i]? = some v, fun i H => ∃ xs, SqL K H a xs ∧ xs.length ≤ i⟩
theorem turn_enum {P : Program} {w : World} {K : PySem.W.Frag} {elts : List Expr} {x1} {pos : Pos} (a e it : Addr) (hne : e ≠ it) : Turn P w K (.Tuple elts x1 pos) (Ite K a) [e, it] e (fun i h => (∃ old, IsEnum h e it (i : Int) old) ∧ h.IsListIter it a i) where
  mem := by simp
  obj := fun i h q b hb => by
    obtain ⟨⟨old, q⟩, st⟩ := q
    rcases List.mem_cons.mp hb with rfl | hb
    · exact ⟨_, q, fun v z => by cases z⟩
    · obtain rfl : b = it := by simpa using hb
      obtain ⟨o, e, c, d⟩ := st
      exact ⟨o, e, fun v z => by rw [d] at z; cases z⟩
  keep := fun i h h' q k => by
    obtain ⟨⟨old, q⟩, st⟩ := q
    exact ⟨⟨old, k e (by simp) _ q⟩, st.at fun o z => k it (by simp) o z⟩
  item := by
    intro X hP hw hK hc i pins s σ H E I hf q hg
    obtain ⟨⟨old, q⟩, st⟩ := q
    subst hP hw hK
    obtain ⟨xs, x, hq, hx⟩ := hg
    obtain ⟨its, rv, p, hz⟩ := I.list hq
    obtain ⟨u, hu, ru⟩ := rv.get hx
    have el : e < s.heap.objs.size := Heap.lt_size q
    have il : it < s.heap.objs.size := by obtain ⟨o, z, _⟩ := st; exact Heap.lt_size z
    refine wpAny_pyNext_enum_item q st p.isList (x := u) (by simpa using hu) hne fun h1 eo st1 ht hs1 k1 => ?_
    refine ⟨_, rfl, wpAny_letOwnedTupleGo_enum eo fun h2 e2 sb => ?_⟩
    have sb2 : Heap.SameBut e h1 h2 := sb
    have I2 : Inv X pins σ (upd H s.heap.objs.size (.tup [.int i, x])) { s with heap := h2, toks := s.toks + 1 } :=
      turnedT (fp := [e, it]) (its := [.int i s.toks, u]) I (fun b o hb z => sb2.extBut b o (fun y => hb (by simp [y])) (k1 b o (fun y => hb (by simp [y])) (fun y => hb (by simp [y])) z))
        (fun b hb => by
          rcases List.mem_cons.mp hb with rfl | hb
          · exact el
          · obtain rfl : b = it := by simpa using hb
            exact il)
        ((sb2.2 _ (Nat.ne_of_gt el)).trans ht) (.cons ⟨_, rfl⟩ (.cons ru .nil)) (by show (2 : Nat) ≤ sizeLine; decide) hf
    refine ⟨.ref s.heap.objs.size, _, I2, rfl, ⟨_, x, rfl, I.fresh, rfl, fun ys hy => by rw [I.list_inj hy hq]; exact hx⟩, ⟨⟨u, ?_⟩, (st1.extBut sb2.extBut (Ne.symm hne))⟩, fun b hb => ?_⟩
    · have : ((i + 1 : Nat) : Int) = (i : Int) + 1 := by omega
      rw [this]; exact e2
    · refine (fpOk_upd (hf b hb) ?_).1
      rcases List.mem_cons.mp hb with rfl | hb
      · exact Nat.ne_of_lt el
      · obtain rfl : b = it := by simpa using hb
        exact Nat.ne_of_lt il
  done := by
    intro X hP hw hK hc i pins s σ H E I hf q hg
    obtain ⟨⟨old, q⟩, st⟩ := q
    subst hP hw hK
    obtain ⟨xs, hq, hx⟩ := hg
    obtain ⟨its, rv, p, hz⟩ := I.list hq
    have hl := rv.length
    exact wpAny_pyNext_enum_end (I.ok.hd hc) q st p.isList (by simp; omega) fun h' eb => ⟨rfl, turnedL (t' := s.toks) (fp := [e, it]) I (fun b o hb z => eb b o (fun y => hb (by simp [y])) z) hf⟩
  self := fun _ _ _ _ _ q h => by
    obtain ⟨⟨old, q⟩, st⟩ := q
    exact wpAny_pyIter_enum q h
theorem boot_enumerate : bootBuiltins "enumerate" = some (.type "enumerate") := by decide +kernel
def iEnum (K : PySem.W.Frag) (ta : TA) : TI := fun σ H R => ta σ H fun vs H1 => ∃ a xs, vs = [.ref a] ∧ SqL K H1 a xs ∧ (xs.length ≤ sizeLine → R (Ite K a) H1)
theorem pi_enum {X : Cx} {a : Expr} {ta : TA} {p pos : Pos} {elts : List Expr} {x1} {pt : Pos} (hg : Gl X "enumerate") (hm : X.mg "enumerate" = none) (ha : PA X [a] ta) (hs : starEach [a] X.env = (false, eval a X.env) :: starEach [] X.env := by rfl) :
    PI X (.Tuple elts x1 pt) (.Call (.Name "enumerate" p) [a] [] pos) (iEnum X.K ta) := by
  intro pins s σ H R I h
  refine Call_ (ld_blt I hg hm boot_enumerate (PyProof.Rows.callWith_type1 (thn (ha pos pins s σ H _ I h) fun us s1 ⟨vs, H1, I1, r1, q1⟩ => ?_) hs rfl))
  obtain ⟨l, xs, rfl, hq, q⟩ := q1
  obtain ⟨u, rfl, rx⟩ := vals1 r1
  cases rx
  obtain ⟨its, rv, pl, hz⟩ := I1.list hq
  refine call_enumerate_list pl.isList fun h' e1 st hsz kp => ?_
  refine wpAny_pyIter_enum (i := 0) e1 ⟨s1.heap.objs.size + 1, [s1.heap.objs.size + 1, s1.heap.objs.size], _, _, H1, rfl, I1.kept (t' := s1.toks) kp, turn_enum l _ _ (Nat.ne_of_gt (Nat.lt_succ_self _)), ⟨⟨_, e1⟩, st⟩, fun b hb => ?_, q hz⟩
  have hb2 : s1.heap.objs.size ≤ b := by
    rcases List.mem_cons.mp hb with rfl | hb
    · exact Nat.le_succ _
    · obtain rfl : b = s1.heap.objs.size := by simpa using hb
      exact Nat.le_refl _
  exact I1.fpOk hb2 (I1.hok.fresh hb2)
def enD : Nat → List D → List D
  | _, [] => []
  | k, x :: r => .tup [.int k, x] :: enD (k + 1) r
theorem enD_len : ∀ (k : Nat) (xs : List D), (enD k xs).length = xs.length
  | _, [] => rfl
  | k, x :: r => by show (enD (k + 1) r).length + 1 = r.length + 1; rw [enD_len]
theorem enD_get : ∀ (k : Nat) (xs : List D) (i : Nat), (enD k xs)[i]? = (xs[i]?).map fun d => .tup [.int (k + i : Nat), d]
  | _, [], _ => rfl
  | k, x :: r, 0 => rfl
  | k, x :: r, i + 1 => by
    show (enD (k + 1) r)[i]? = _
    rw [enD_get (k + 1) r i, show k + 1 + i = k + (i + 1) by omega]
    rfl
def i_enumerate (t : TF2) : TF2 := fun Γ P E => t Γ (fun ds Γ1 => match ds with | [.lst xs] => P (enD 0 xs) Γ1 | _ => False) E
theorem itd_enum {K : PySem.W.Frag} {F : Hp} {a : Addr} {vs : List V} {xs : List D} (hq : SqL K F a vs) (rs : Reps K F xs vs) (hz : vs.length ≤ sizeLine) : ItD K F noH (Ite K a) (enD 0 xs) := by
  have hl := reps_len rs
  refine ⟨by rw [enD_len]; omega, fun i H2 F2 s2 s3 _ => ⟨fun e => ⟨vs, s3.seq (s2.seq hq), by rw [e, enD_len]; omega⟩, fun d hd => ?_⟩⟩
  rw [enD_get] at hd
  cases hx : xs[i]? with
  | none => rw [hx] at hd; cases hd
  | some x =>
    rw [hx] at hd; cases hd
    obtain ⟨v, hv, rv⟩ := reps_get rs hx
    refine ⟨⟨vs, v, s3.seq (s2.seq hq), hv⟩, fun y H' z => ?_⟩
    obtain ⟨b, v2, rfl, hb, rfl, z⟩ := z
    have := z vs (s3.seq (s2.seq hq))
    rw [hv] at this; cases this
    have gr := Gr.laid (o := HO.tup [.int i, v]) s3 hb
    refine ⟨_, gr, ?_⟩
    unfold Rep
    refine ⟨b, _, rfl, .inl (.inl upd_same), reps_cons ?_ (reps_cons ((rv.up s2).up gr.f) (by unfold Reps; rfl))⟩
    unfold Rep
    simp
section
variable {X : Cx} {F0 H0 : Hp} {a b e tg : Expr} {es : List Expr} {pos p pt : Pos} {te : TE2} {t : TF2} {g : TG2} {tb : TS2} {elts : List Expr}
theorem qi_enumerate {x1} (hc : X.calm = true) (hg : Gl X "enumerate") (hm : X.mg "enumerate" = none) (ha : QA X F0 H0 [a] t) (hs : starEach [a] X.env = (false, eval a X.env) :: starEach [] X.env := by rfl) :
    QI X F0 H0 (.Tuple elts x1 pt) (.Call (.Name "enumerate" p) [a] [] pos) (i_enumerate t) := fun z E cx => piC (pi_enum (X := X.wsh z) hg hm (ha z E cx) hs) fun σ H R ⟨F, Γ, P, S, q, k⟩ => ⟨F, Γ, _, S, q, fun ds Γ1 F1 H1 vs R1 s1 r1 h1 => by
    unfold i_enumerate at *
    split at h1
    · unfold Reps Reps Rep at r1
      obtain ⟨v, _, rfl, ⟨l, us, rfl, hq, rs⟩, rfl⟩ := r1
      exact ⟨l, us, rfl, R1.g.seq hq, fun hz => k _ Γ1 F1 H1 _ R1 s1 (itd_enum hq rs hz) h1⟩
    · exact h1.elim⟩
end

def u_int : List D → (D → Prop) → Prop := fun ds P => match ds with | [.bl b] => P (.int (if b then 1 else 0)) | [.int i] => P (.int i) | _ => False
theorem q_int {X : Cx} : CallR X (.type "int") (rUpA X.K u_int) := by
  intro pins s σ H xs us Q I r ⟨F, ds, P, sF, rs, h, k⟩
  unfold u_int at h
  split at h
  · unfold Reps Reps Rep at rs
    obtain ⟨v, _, rfl, rfl, rfl⟩ := rs
    obtain ⟨u, rfl, rx⟩ := vals1 r
    cases rx
    exact call_int_bool ⟨.int _, H, I.tok _, ⟨_, rfl⟩, k _ _ F H (Gr.refl sF) (by unfold Rep; rfl) h⟩
  · unfold Reps Reps Rep at rs
    obtain ⟨v, _, rfl, rfl, rfl⟩ := rs
    obtain ⟨u, rfl, rx⟩ := vals1 r
    obtain ⟨t, rfl⟩ := rx
    exact call_int_int ⟨.int _, H, I, ⟨_, rfl⟩, k _ _ F H (Gr.refl sF) (by unfold Rep; rfl) h⟩
  · exact h.elim

def n_sorted : List D → (List D → Prop) → Prop := fun ds P => match ds with | [.lst xs] => ∃ ns, intsD xs = some ns ∧ ns.length < 64 ∧ ∀ ms : List Int, ms.Perm ns → ms.Pairwise (· ≤ ·) → P (ms.map .int) | _ => False
end L3

namespace L3
open PySem PySem.Spec PyProof.Rows L2

section
variable {prog : Program} {w : World} {A : Around} {E : Value → Shared → Prop} {s : Shared}
def IsIt (t : Bool) (h : Heap) (it l : Addr) (i : Nat) : Prop := match t with | false => h.IsListIter it l i | true => h.IsTupleIter it l i
def IsSq (t : Bool) (h : Heap) (l : Addr) (xs : Array Value) : Prop := match t with | false => h.IsList l xs | true => h.IsTuple l xs
theorem isIt_at {t : Bool} {h h' : Heap} {it l : Addr} {i : Nat} (x : IsIt t h it l i) (k : ∀ o, h.get? it = some o → h'.get? it = some o) : IsIt t h' it l i := by
  cases t <;> exact let ⟨o, ho, r⟩ := x; ⟨o, k o ho, r⟩
theorem isSq_at {t : Bool} {h h' : Heap} {l : Addr} {xs : Array Value} (x : IsSq t h l xs) (k : ∀ o, h.get? l = some o → h'.get? l = some o) : IsSq t h' l xs := by
  cases t <;> exact let ⟨o, ho, r⟩ := x; ⟨o, k o ho, r⟩
theorem isIt_ob {t : Bool} {h : Heap} {it l : Addr} {i : Nat} (x : IsIt t h it l i) : ∃ o, h.get? it = some o ∧ ∀ v, o.data ≠ .cell v := by
  cases t <;> exact let ⟨o, ho, _, d⟩ := x; ⟨o, ho, fun v z => by rw [d] at z; cases z⟩
theorem iterB {t : Bool} {l : Addr} {xs : Array Value} {Q : Value → Shared → Prop} (hl : IsSq t s.heap l xs)
    (hQ : Q (.ref s.heap.objs.size) { s with heap := s.heap.push { cls := .type (if t then "tuple_iterator" else "list_iterator"), data := .fields #[.ref l, .int 0 0] } }) : wpAny (model prog w) A (pyIter (.ref l)) Q E s := by
  cases t
  · exact wpAny_pyIter_list hl hQ
  · exact wpAny_pyIter_tuple hl hQ
theorem nextB_item {t : Bool} {it l : Addr} {i : Nat} {xs : Array Value} {x : Value} {Q : Value → Shared → Prop} (hit : IsIt t s.heap it l i) (hl : IsSq t s.heap l xs) (hx : xs[i]? = some x)
    (hQ : ∀ h', IsIt t h' it l (i + 1) → Heap.SameBut it s.heap h' → Q x { s with heap := h' }) : wpAny (model prog w) A (Builtin.SmallTypes.nextOf (.ref it)) Q E s := by
  cases t
  · exact wpAny_nextOf_list_item hit hl hx hQ
  · have hit2 : s.heap.IsTupleIter it l i := hit
    obtain ⟨o, ho, hc, hd⟩ := id hit2
    obtain ⟨ol, hol, _, nl, hdl⟩ := (show s.heap.IsTuple l xs from hl)
    unfold Builtin.SmallTypes.nextOf
    refine wpAny_bind (wpAny_callSpecial?_slot (name := Str.ofString "__next__") hit2.typeIs F.slot_tuple_iterator_next (wpAny_call_entry F.slot_tuple_iterator_next hit2.typeIs F.entry_tuple_iterator_next ?_ (F.args_tuple_iterator_next_1 _)))
    show wpAny _ _ (field (.ref it) 0 >>= _) _ _ s
    refine wpAny_bind (wpAny_field ho hd (x := .ref l) rfl ?_)
    show wpAny _ _ (if (Value.ref l == Value.none) = true then _ else _) _ _ s
    rw [if_neg (show ¬ ((Value.ref l == Value.none) = true) from Bool.false_ne_true)]
    show wpAny _ _ (field (.ref it) 1 >>= _) _ _ s
    refine wpAny_bind (wpAny_field ho hd (x := .int i 0) rfl ?_)
    show wpAny _ _ (seqItems? (.ref l) >>= _) _ _ s
    refine wpAny_bind (wpAny_seqItems hol hdl ?_)
    simp only [Int.toNat_natCast, hx]
    refine wpAny_bind (wpAny_setField ho hd (by simp) (wpAny_pure ⟨x, rfl, wpAny_pure (hQ _ ?_ (Heap.SameBut.update ..))⟩))
    exact ⟨_, Heap.get?_update_self _ ho (Obj.isFreed_of_fields (Obj.data_mapFields hd _)), (Obj.cls_mapFields ..).trans hc, by rw [Obj.data_mapFields hd]; simp [rawInt]⟩
theorem nextB_end {t : Bool} {it l : Addr} {i : Nat} {xs : Array Value} {Q : Value → Shared → Prop} (hh : A.handled = none) (hit : IsIt t s.heap it l i) (hl : IsSq t s.heap l xs) (hx : xs[i]? = none)
    (hE : ∀ h' e, Heap.ExtBut it s.heap h' → (∃ o, h'.get? e = some o ∧ o.cls = .type "StopIteration") → E (.ref e) { s with heap := h' }) : wpAny (model prog w) A (Builtin.SmallTypes.nextOf (.ref it)) Q E s := by
  cases t
  · exact wpAny_nextOf_list_end hh hit hl hx hE
  · have hit2 : s.heap.IsTupleIter it l i := hit
    obtain ⟨o, ho, hc, hd⟩ := id hit2
    obtain ⟨ol, hol, _, nl, hdl⟩ := (show s.heap.IsTuple l xs from hl)
    unfold Builtin.SmallTypes.nextOf
    refine wpAny_bind (wpAny_callSpecial?_slot (name := Str.ofString "__next__") hit2.typeIs F.slot_tuple_iterator_next (wpAny_call_entry F.slot_tuple_iterator_next hit2.typeIs F.entry_tuple_iterator_next ?_ (F.args_tuple_iterator_next_1 _)))
    show wpAny _ _ (field (.ref it) 0 >>= _) _ _ s
    refine wpAny_bind (wpAny_field ho hd (x := .ref l) rfl ?_)
    show wpAny _ _ (if (Value.ref l == Value.none) = true then _ else _) _ _ s
    rw [if_neg (show ¬ ((Value.ref l == Value.none) = true) from Bool.false_ne_true)]
    show wpAny _ _ (field (.ref it) 1 >>= _) _ _ s
    refine wpAny_bind (wpAny_field ho hd (x := .int i 0) rfl ?_)
    show wpAny _ _ (seqItems? (.ref l) >>= _) _ _ s
    refine wpAny_bind (wpAny_seqItems hol hdl ?_)
    simp only [Int.toNat_natCast, hx]
    refine wpAny_bind (wpAny_rule (wpAny_bind (wpAny_setField ho hd (by simp) ?_)))
    show wpAny _ _ (newExc (.type "StopIteration") [] >>= _) _ _ _
    refine wpAny_bind ?_
    simp only [newExc, newTuple]
    refine wpAny_bind (wpAny_newObj_type ?_ (by size_fits))
    refine wpAny_bind (m := firstArgMember _ _) (wpAny_of_eq (a := Value.none) (by first | rfl | (simp only [firstArgMember]; rfl)) ?_)
    refine wpAny_newObj_type ?_ (by size_fits)
    simp only [raiseNew]
    refine wpAny_bind (wpAny_handled ?_)
    first | rw [show A.in1.handled = none from hh] | rw [hh]
    refine wpAny_bind (wpAny_pure (wpAny_throw ?_))
    exact hE _ _ (((Heap.SameBut.update ..).extBut.push _).push _) ⟨_, Heap.get?_push_size _ rfl, rfl⟩

structure ZApart (z TI TO i1 i2 l1 l2 : Addr) : Prop where
  p : TI ≠ z ∧ TO ≠ z ∧ i1 ≠ z ∧ i2 ≠ z ∧ TI ≠ TO ∧ TI ≠ i1 ∧ TI ≠ i2 ∧ TO ≠ i1 ∧ TO ≠ i2 ∧ i1 ≠ i2
  q : l1 ≠ z ∧ l1 ≠ TO ∧ l1 ≠ i1 ∧ l1 ≠ i2 ∧ l2 ≠ z ∧ l2 ≠ TO ∧ l2 ≠ i1 ∧ l2 ≠ i2
theorem ZApart.k {z TI TO i1 i2 l1 l2 : Addr} (D : ZApart z TI TO i1 i2 l1 l2) : ZipApart z TI TO i1 i2 l1 l2 := by
  obtain ⟨⟨a1, a2, a3, a4, a5, a6, a7, a8, a9, a10⟩, b1, b2, b3, b4, b5, b6, b7, b8⟩ := D
  exact ⟨a1, a2, a3, a4, a5, a6, a7, a8, a9, a10, b1, b2, b3, b4, b5, b6, b7, b8⟩
theorem zipB_item {t1 t2 : Bool} {z TI TO i1 i2 l1 l2 : Addr} {k1 k2 : Nat} {xs ys : Array Value} {x y a b : Value} {Q : Value → Shared → Prop} (D : ZipApart z TI TO i1 i2 l1 l2) (hz : IsZip s.heap z TI TO .none) (hTI : IsPair s.heap TI (.ref i1) (.ref i2)) (hTO : IsPair s.heap TO a b)
    (h1 : IsIt t1 s.heap i1 l1 k1) (h2 : IsIt t2 s.heap i2 l2 k2) (hl1 : IsSq t1 s.heap l1 xs) (hl2 : IsSq t2 s.heap l2 ys) (hx : xs[k1]? = some x) (hy : ys[k2]? = some y)
    (hQ : ∀ h', IsZip h' z TI TO (rawInt s.heap.objs.size) → IsPair h' TO x y → IsIt t1 h' i1 l1 (k1 + 1) → IsIt t2 h' i2 l2 (k2 + 1) → IsPair h' s.heap.objs.size x y → h'.objs.size = s.heap.objs.size + 1 →
      (∀ c o, c ≠ z → c ≠ TO → c ≠ i1 → c ≠ i2 → s.heap.get? c = some o → h'.get? c = some o) → Q (.ref s.heap.objs.size) { s with heap := h' }) : wpAny (model prog w) A (Builtin.«zip.__next__» ⟨[.ref z], []⟩) (fun fin s' => ∃ v, fin = .done (.ret v) ∧ Q v s') E s := by
  have kI : ∀ {t : Bool} {h h' : Heap} {it l c : Addr} {i : Nat}, IsIt t h it l i → Heap.ExtBut c h h' → it ≠ c → IsIt t h' it l i := fun x e n => isIt_at x fun o ho => e _ o n ho
  have kS : ∀ {t : Bool} {h h' : Heap} {l c : Addr} {ws : Array Value}, IsSq t h l ws → Heap.ExtBut c h h' → l ≠ c → IsSq t h' l ws := fun x e n => isSq_at x fun o ho => e _ o n ho
  show wpAny _ _ (field (.ref z) 2 >>= _) _ _ _; refine wpAny_bind (wpAny_field hz rfl (x := .bool false) rfl ?_)
  show wpAny _ _ (field (.ref z) 3 >>= _) _ _ _; refine wpAny_bind (wpAny_field hz rfl (x := .ref TI) rfl ?_); refine wpAny_bind (wpAny_seqItems hTI rfl ?_)
  show wpAny _ _ (Builtin.SmallTypes.ownedTupleIsFree (.ref z) >>= _) _ _ _; refine wpAny_bind ?_; unfold Builtin.SmallTypes.ownedTupleIsFree
  refine wpAny_bind (wpAny_field hz rfl (x := .none) rfl (wpAny_pure ?_)); simp only [if_true]; refine wpAny_bind (wpAny_rule ?_); refine wpAny_bind (wpAny_field hz rfl (x := .ref TO) rfl ?_)
  refine wpAny_bind (wpAny_setField_rec hz (by simp) fun g1 hz1 hs1 => ?_)
  replace hz1 : IsZip g1 z TI TO .ellipsis := hz1
  refine wpAny_bind ?_; simp only [List.zipIdx_cons, List.zipIdx_nil, List.forIn_cons, List.forIn_nil]; refine wpAny_bind (wpAny_bind (wpAny_onRaise ?_))
  show wpAny _ _ (Builtin.SmallTypes.nextOf (.ref i1) >>= _) _ _ _
  refine wpAny_bind (nextB_item (kI h1 hs1.extBut D.i1z) (kS hl1 hs1.extBut D.l1z) hx fun g2 q1 hs2 => wpAny_pure ?_)
  have t2' : IsPair g2 TO a b := hs2.extBut _ _ D.TOi1 (hs1.extBut _ _ D.TOz hTO)
  refine wpAny_bind (wpAny_seqItems t2' rfl ?_); refine wpAny_bind (wpAny_updateSeq_pair t2' fun g3 t3 hs3 => ?_)
  replace t3 : IsPair g3 TO x b := t3
  refine wpAny_bind (wpAny_letGo (wpAny_pure ?_)); refine wpAny_bind (wpAny_bind (wpAny_onRaise ?_))
  show wpAny _ _ (Builtin.SmallTypes.nextOf (.ref i2) >>= _) _ _ _
  refine wpAny_bind (nextB_item (kI (kI (kI h2 hs1.extBut D.i2z) hs2.extBut D.i12.symm) hs3.extBut D.TOi2.symm) (kS (kS (kS hl2 hs1.extBut D.l2z) hs2.extBut D.l2i1) hs3.extBut D.l2TO) hy fun g4 q2 hs4 => wpAny_pure ?_)
  have t4 : IsPair g4 TO x b := hs4.extBut _ _ D.TOi2 t3
  refine wpAny_bind (wpAny_seqItems t4 rfl ?_); refine wpAny_bind (wpAny_updateSeq_pair t4 fun g5 t5 hs5 => ?_)
  replace t5 : IsPair g5 TO x y := t5
  refine wpAny_bind (wpAny_letGo (wpAny_pure (wpAny_pure ?_))); refine wpAny_bind (wpAny_seqItems t5 rfl ?_); refine wpAny_bind (wpAny_newTuple ?_)
  have hsz : g5.objs.size = s.heap.objs.size := by rw [hs5.1, hs4.1, hs3.1, hs2.1, hs1.1]
  have hz5 : IsZip g5 z TI TO .ellipsis := hs5.extBut _ _ D.TOz.symm (hs4.extBut _ _ D.i2z.symm (hs3.extBut _ _ D.TOz.symm (hs2.extBut _ _ D.i1z.symm hz1)))
  have hk5 : ∀ c o, c ≠ z → c ≠ TO → c ≠ i1 → c ≠ i2 → s.heap.get? c = some o → g5.get? c = some o := fun c o c1 c2 c3 c4 e => hs5.extBut _ _ c2 (hs4.extBut _ _ c4 (hs3.extBut _ _ c2 (hs2.extBut _ _ c3 (hs1.extBut _ _ c1 e))))
  have r1 : IsIt t1 g5 i1 l1 (k1 + 1) := kI (kI (kI q1 hs3.extBut D.TOi1.symm) hs4.extBut D.i12) hs5.extBut D.TOi1.symm
  have r2 : IsIt t2 g5 i2 l2 (k2 + 1) := kI q2 hs5.extBut D.TOi2.symm
  have zlt : z < g5.objs.size := Heap.lt_size hz5
  show wpAny _ _ (Builtin.SmallTypes.ownedTupleHandOut (.ref z) (.ref g5.objs.size) >>= _) _ _ _
  refine wpAny_bind ?_; unfold Builtin.SmallTypes.ownedTupleHandOut
  have hz6 : IsZip (g5.push { cls := .type "tuple", data := .seq #[x, y] }) z TI TO .ellipsis := Heap.get?_push_of_some _ hz5
  refine wpAny_bind (wpAny_setField_rec hz6 (by simp) fun g7 hz7 hs7 => ?_)
  replace hz7 : IsZip g7 z TI TO (rawInt g5.objs.size) := hz7
  refine wpAny_setField_rec hz7 (by simp) fun g8 hz8 hs8 => ?_
  replace hz8 : IsZip g8 z TI TO (rawInt g5.objs.size) := hz8
  have up : ∀ c o, c ≠ z → g5.get? c = some o → g8.get? c = some o := fun c o c1 e => hs8.extBut _ _ c1 (hs7.extBut _ _ c1 (Heap.get?_push_of_some _ e))
  have hT8 : IsPair g8 g5.objs.size x y := hs8.extBut _ _ (Nat.ne_of_gt zlt) (hs7.extBut _ _ (Nat.ne_of_gt zlt) (Heap.get?_push_size _ rfl))
  have sz8 : g8.objs.size = g5.objs.size + 1 := by rw [hs8.1, hs7.1, Heap.size_push]
  rw [hsz] at hz8 hT8 sz8; refine wpAny_pure ⟨_, rfl, ?_⟩
  show Q (.ref g5.objs.size) _
  rw [hsz]
  exact hQ g8 hz8 (up _ _ D.TOz t5) (isIt_at r1 fun o e => up _ o D.i1z e) (isIt_at r2 fun o e => up _ o D.i2z e) hT8 sz8 fun c o c1 c2 c3 c4 e => up c o c1 (hk5 c o c1 c2 c3 c4 e)
theorem zipB_end {t1 t2 : Bool} {z TI TO i1 i2 l1 l2 : Addr} {k1 k2 : Nat} {xs ys : Array Value} {a b : Value} {Q : Fin → Shared → Prop} (hh : A.handled = none) (D : ZipApart z TI TO i1 i2 l1 l2) (hz : IsZip s.heap z TI TO .none) (hTI : IsPair s.heap TI (.ref i1) (.ref i2)) (hTO : IsPair s.heap TO a b)
    (h1 : IsIt t1 s.heap i1 l1 k1) (h2 : IsIt t2 s.heap i2 l2 k2) (hl1 : IsSq t1 s.heap l1 xs) (hl2 : IsSq t2 s.heap l2 ys) (hend : xs[k1]? = none ∨ ys[k2]? = none)
    (hE : ∀ h' e, (∀ c o, c ≠ z → c ≠ TO → c ≠ i1 → c ≠ i2 → s.heap.get? c = some o → h'.get? c = some o) → (∃ o, h'.get? e = some o ∧ o.cls = .type "StopIteration") → E (.ref e) { s with heap := h' }) : wpAny (model prog w) A (Builtin.«zip.__next__» ⟨[.ref z], []⟩) Q E s := by
  have kI : ∀ {t : Bool} {h h' : Heap} {it l c : Addr} {i : Nat}, IsIt t h it l i → Heap.ExtBut c h h' → it ≠ c → IsIt t h' it l i := fun x e n => isIt_at x fun o ho => e _ o n ho
  have kS : ∀ {t : Bool} {h h' : Heap} {l c : Addr} {ws : Array Value}, IsSq t h l ws → Heap.ExtBut c h h' → l ≠ c → IsSq t h' l ws := fun x e n => isSq_at x fun o ho => e _ o n ho
  show wpAny _ _ (field (.ref z) 2 >>= _) _ _ _; refine wpAny_bind (wpAny_field hz rfl (x := .bool false) rfl ?_)
  show wpAny _ _ (field (.ref z) 3 >>= _) _ _ _; refine wpAny_bind (wpAny_field hz rfl (x := .ref TI) rfl ?_); refine wpAny_bind (wpAny_seqItems hTI rfl ?_)
  show wpAny _ _ (Builtin.SmallTypes.ownedTupleIsFree (.ref z) >>= _) _ _ _; refine wpAny_bind ?_; unfold Builtin.SmallTypes.ownedTupleIsFree
  refine wpAny_bind (wpAny_field hz rfl (x := .none) rfl (wpAny_pure ?_)); simp only [if_true]; refine wpAny_bind (wpAny_rule ?_); refine wpAny_bind (wpAny_field hz rfl (x := .ref TO) rfl ?_)
  refine wpAny_bind (wpAny_setField_rec hz (by simp) fun g1 hz1 hs1 => ?_)
  replace hz1 : IsZip g1 z TI TO .ellipsis := hz1
  refine wpAny_bind ?_; simp only [List.zipIdx_cons, List.zipIdx_nil, List.forIn_cons, List.forIn_nil]; refine wpAny_bind (wpAny_bind (wpAny_onRaise ?_))
  show wpAny _ _ (Builtin.SmallTypes.nextOf (.ref i1) >>= _) _ _ _
  cases hx : xs[k1]? with
  | none =>
    refine wpAny_bind (nextB_end hh (kI h1 hs1.extBut D.i1z) (kS hl1 hs1.extBut D.l1z) hx fun g2 e hs2 he => ?_)
    obtain ⟨oe, hoe, hce⟩ := he
    have hz2 : IsZip g2 z TI TO .ellipsis := hs2 _ _ D.i1z.symm hz1
    have hez : e ≠ z := fun x => by subst x; rw [hz2] at hoe; cases hoe; simp at hce
    exact wpAny_setField_rec hz2 (by simp) fun g3 _ hs3 => hE g3 e (fun c o c1 _ c3 _ x => hs3.extBut _ _ c1 (hs2 _ _ c3 (hs1.extBut _ _ c1 x))) ⟨oe, hs3.extBut _ _ hez hoe, hce⟩
  | some x =>
    have hy : ys[k2]? = none := by rcases hend with h | h; rw [hx] at h; cases h; exact h
    refine wpAny_bind (nextB_item (kI h1 hs1.extBut D.i1z) (kS hl1 hs1.extBut D.l1z) hx fun g2 q1 hs2 => wpAny_pure ?_)
    have t2' : IsPair g2 TO a b := hs2.extBut _ _ D.TOi1 (hs1.extBut _ _ D.TOz hTO)
    refine wpAny_bind (wpAny_seqItems t2' rfl ?_); refine wpAny_bind (wpAny_updateSeq_pair t2' fun g3 t3 hs3 => ?_)
    refine wpAny_bind (wpAny_letGo (wpAny_pure ?_)); refine wpAny_bind (wpAny_bind (wpAny_onRaise ?_))
    show wpAny _ _ (Builtin.SmallTypes.nextOf (.ref i2) >>= _) _ _ _
    refine wpAny_bind (nextB_end hh (kI (kI (kI h2 hs1.extBut D.i2z) hs2.extBut D.i12.symm) hs3.extBut D.TOi2.symm) (kS (kS (kS hl2 hs1.extBut D.l2z) hs2.extBut D.l2i1) hs3.extBut D.l2TO) hy fun g4 e hs4 he => ?_)
    obtain ⟨oe, hoe, hce⟩ := he
    have hz4 : IsZip g4 z TI TO .ellipsis := hs4 _ _ D.i2z.symm (hs3.extBut _ _ D.TOz.symm (hs2.extBut _ _ D.i1z.symm hz1))
    have hez : e ≠ z := fun x => by subst x; rw [hz4] at hoe; cases hoe; simp at hce
    exact wpAny_setField_rec hz4 (by simp) fun g5 _ hs5 => hE g5 e (fun c o c1 c2 c3 c4 x => hs5.extBut _ _ c1 (hs4 _ _ c4 (hs3.extBut _ _ c2 (hs2.extBut _ _ c3 (hs1.extBut _ _ c1 x))))) ⟨oe, hs5.extBut _ _ hez hoe, hce⟩
theorem nextZ_item {t1 t2 : Bool} {z TI TO i1 i2 l1 l2 : Addr} {k1 k2 : Nat} {xs ys : Array Value} {x y a b : Value} {Q : Option Value → Shared → Prop} (D : ZipApart z TI TO i1 i2 l1 l2) (hz : IsZip s.heap z TI TO .none) (hTI : IsPair s.heap TI (.ref i1) (.ref i2)) (hTO : IsPair s.heap TO a b)
    (h1 : IsIt t1 s.heap i1 l1 k1) (h2 : IsIt t2 s.heap i2 l2 k2) (hl1 : IsSq t1 s.heap l1 xs) (hl2 : IsSq t2 s.heap l2 ys) (hx : xs[k1]? = some x) (hy : ys[k2]? = some y)
    (hQ : ∀ h', IsZip h' z TI TO (rawInt s.heap.objs.size) → IsPair h' TO x y → IsIt t1 h' i1 l1 (k1 + 1) → IsIt t2 h' i2 l2 (k2 + 1) → IsPair h' s.heap.objs.size x y → h'.objs.size = s.heap.objs.size + 1 →
      (∀ c o, c ≠ z → c ≠ TO → c ≠ i1 → c ≠ i2 → s.heap.get? c = some o → h'.get? c = some o) → Q (some (.ref s.heap.objs.size)) { s with heap := h' }) : wpAny (model prog w) A (pyNext (.ref z)) Q E s := by
  have hT : s.TypeIs (.ref z) "zip" := ⟨_, hz, rfl⟩
  unfold pyNext
  exact wpAny_bind (wpAny_attempt (wpAny_callSpecial?_slot (name := Str.ofString "__next__") hT F.slot_zip_next (wpAny_call_entry F.slot_zip_next hT F.entry_zip_next (zipB_item D hz hTI hTO h1 h2 hl1 hl2 hx hy fun h' a1 a2 a3 a4 a5 a6 a7 => wpAny_pure (hQ h' a1 a2 a3 a4 a5 a6 a7)) (F.args_zip_next_1 _))))
theorem nextZ_end {t1 t2 : Bool} {z TI TO i1 i2 l1 l2 : Addr} {k1 k2 : Nat} {xs ys : Array Value} {a b : Value} {Q : Option Value → Shared → Prop} (hh : A.handled = none) (D : ZipApart z TI TO i1 i2 l1 l2) (hz : IsZip s.heap z TI TO .none) (hTI : IsPair s.heap TI (.ref i1) (.ref i2)) (hTO : IsPair s.heap TO a b)
    (h1 : IsIt t1 s.heap i1 l1 k1) (h2 : IsIt t2 s.heap i2 l2 k2) (hl1 : IsSq t1 s.heap l1 xs) (hl2 : IsSq t2 s.heap l2 ys) (hend : xs[k1]? = none ∨ ys[k2]? = none)
    (hQ : ∀ h', (∀ c o, c ≠ z → c ≠ TO → c ≠ i1 → c ≠ i2 → s.heap.get? c = some o → h'.get? c = some o) → Q none { s with heap := h' }) : wpAny (model prog w) A (pyNext (.ref z)) Q E s := by
  have hT : s.TypeIs (.ref z) "zip" := ⟨_, hz, rfl⟩
  unfold pyNext
  refine wpAny_bind (wpAny_attempt (wpAny_callSpecial?_slot (name := Str.ofString "__next__") hT F.slot_zip_next (wpAny_call_entry F.slot_zip_next hT F.entry_zip_next (zipB_end hh D hz hTI hTO h1 h2 hl1 hl2 hend fun h' e hk he => ?_) (F.args_zip_next_1 _))))
  obtain ⟨o, ho, hc⟩ := he
  refine wpAny_bind (wpAny_isInstance (T := "StopIteration") (b := true) ⟨o, ho, hc⟩ isSubtype_stop ?_); exact wpAny_pure (hQ _ hk)
def itN (t : Bool) : String := if t then "tuple_iterator" else "list_iterator"
abbrev zH1 (t1 : Bool) (h : Heap) (l1 : Addr) : Heap := h.push { cls := .type (itN t1), data := .fields #[.ref l1, .int 0 0] }
abbrev zH2 (t1 t2 : Bool) (h : Heap) (l1 l2 : Addr) : Heap := (zH1 t1 h l1).push { cls := .type (itN t2), data := .fields #[.ref l2, .int 0 0] }
abbrev zH3 (t1 t2 : Bool) (h : Heap) (l1 l2 : Addr) : Heap := (zH2 t1 t2 h l1 l2).push { cls := .type "tuple", data := .seq #[.ref h.objs.size, .ref (zH1 t1 h l1).objs.size] }
abbrev zH4 (t1 t2 : Bool) (h : Heap) (l1 l2 : Addr) : Heap := (zH3 t1 t2 h l1 l2).push { cls := .type "tuple", data := .seq #[.none, .none] }
abbrev zH5 (t1 t2 : Bool) (h : Heap) (l1 l2 : Addr) : Heap := (zH4 t1 t2 h l1 l2).push { cls := .type "zip", data := .fields #[.none, .bool false, .bool false, .ref (zH2 t1 t2 h l1 l2).objs.size, .ref (zH3 t1 t2 h l1 l2).objs.size] }
theorem isSq_push {t : Bool} {h : Heap} {l : Addr} {xs : Array Value} (x : IsSq t h l xs) (o : Obj) : IsSq t (h.push o) l xs := isSq_at x fun _ e => Heap.get?_push_of_some _ e
theorem iterB' {t : Bool} {l : Addr} {xs : Array Value} {Q : Value → Shared → Prop} (hl : IsSq t s.heap l xs)
    (hQ : Q (.ref s.heap.objs.size) { s with heap := s.heap.push { cls := .type (itN t), data := .fields #[.ref l, .int 0 0] } }) : wpAny (model prog w) A (pyIter (.ref l)) Q E s := iterB hl hQ
theorem meetsZ (t1 t2 : Bool) (l1 l2 : Addr) (xs ys : Array Value) : Meets (Builtin.«zip.__new__» ⟨[.type "zip", .ref l1, .ref l2], []⟩) (fun _ R s => IsSq t1 s.heap l1 xs ∧ IsSq t2 s.heap l2 ys ∧ R (.ok (.ret (.ref (zH4 t1 t2 s.heap l1 l2).objs.size))) { s with heap := zH5 t1 t2 s.heap l1 l2 }) :=
  .of_wp fun prog w A R s h => by
    obtain ⟨hp, g, d, tk, os⟩ := s
    obtain ⟨hl1, hl2, h⟩ := h
    have hsub := sub_zip
    have hL1 : IsSq t1 (Shared.heap ⟨hp, g, d, tk, os⟩) l1 xs := hl1
    have hL2 : IsSq t2 (Shared.heap ⟨hp.push { cls := .type (itN t1), data := .fields #[.ref l1, .int 0 0] }, g, d, tk, os⟩) l2 ys := isSq_push hl2 _
    wp_walk using iterB' hL1, iterB' hL2
    exact ⟨_, rfl, h⟩
theorem isIt_new {t : Bool} {h : Heap} {a l : Addr} (e : h.get? a = some { cls := .type (itN t), data := .fields #[.ref l, .int 0 0] }) : IsIt t h a l 0 := by
  cases t <;> exact ⟨_, e, rfl, rfl⟩
theorem call_zipB {t1 t2 : Bool} {l1 l2 : Addr} {xs ys : Array Value} {Q : Value → Shared → Prop} (hl1 : IsSq t1 s.heap l1 xs) (hl2 : IsSq t2 s.heap l2 ys)
    (h : ∀ h', IsZip h' (s.heap.objs.size + 4) (s.heap.objs.size + 2) (s.heap.objs.size + 3) .none → IsPair h' (s.heap.objs.size + 2) (.ref s.heap.objs.size) (.ref (s.heap.objs.size + 1)) → IsPair h' (s.heap.objs.size + 3) .none .none → IsIt t1 h' s.heap.objs.size l1 0 → IsIt t2 h' (s.heap.objs.size + 1) l2 0 →
      (∀ c o, s.heap.get? c = some o → h'.get? c = some o) → Q (.ref (s.heap.objs.size + 4)) { s with heap := h' }) : wpAny (model prog w) A (call (.type "zip") [.ref l1, .ref l2]) Q E s := by
  refine callType_new F.called_zip (by decide) (F.typeCall_zip_2 _ _) (F.newCall_zip_2 _ _) (fun obj => F.args_object_init_3 obj _ _) F.entry_zip_new (meetsZ t1 t2 l1 l2 xs ys) ⟨hl1, hl2, ?_⟩
  have z1 : (zH1 t1 s.heap l1).objs.size = s.heap.objs.size + 1 := Heap.size_push ..
  have z2 : (zH2 t1 t2 s.heap l1 l2).objs.size = s.heap.objs.size + 2 := by rw [Heap.size_push, z1]
  have z3 : (zH3 t1 t2 s.heap l1 l2).objs.size = s.heap.objs.size + 3 := by rw [Heap.size_push, z2]
  have z4 : (zH4 t1 t2 s.heap l1 l2).objs.size = s.heap.objs.size + 4 := by rw [Heap.size_push, z3]
  have g5 : (zH5 t1 t2 s.heap l1 l2).get? (zH4 t1 t2 s.heap l1 l2).objs.size = some _ := Heap.get?_push_size _ rfl
  have g4 : (zH5 t1 t2 s.heap l1 l2).get? (zH3 t1 t2 s.heap l1 l2).objs.size = some _ := Heap.get?_push_of_some _ (Heap.get?_push_size _ rfl)
  have g3 : (zH5 t1 t2 s.heap l1 l2).get? (zH2 t1 t2 s.heap l1 l2).objs.size = some _ := Heap.get?_push_of_some _ (Heap.get?_push_of_some _ (Heap.get?_push_size _ rfl))
  have g2 : (zH5 t1 t2 s.heap l1 l2).get? (zH1 t1 s.heap l1).objs.size = some _ := Heap.get?_push_of_some _ (Heap.get?_push_of_some _ (Heap.get?_push_of_some _ (Heap.get?_push_size _ rfl)))
  have g1 : (zH5 t1 t2 s.heap l1 l2).get? s.heap.objs.size = some _ := Heap.get?_push_of_some _ (Heap.get?_push_of_some _ (Heap.get?_push_of_some _ (Heap.get?_push_of_some _ (Heap.get?_push_size _ rfl))))
  show _ ∧ _
  rw [z2, z3, z4] at g5; rw [z1, z2] at g3; rw [z3] at g4; rw [z1] at g2; rw [z4]
  exact ⟨⟨_, g5, rfl⟩, h _ g5 g3 g4 (isIt_new g1) (isIt_new g2) fun c o x => Heap.get?_push_of_some _ (Heap.get?_push_of_some _ (Heap.get?_push_of_some _ (Heap.get?_push_of_some _ (Heap.get?_push_of_some _ x))))⟩
end

def Sq (t : Bool) (K : PySem.W.Frag) (H : Hp) (a : Addr) (xs : List V) : Prop := match t with | false => SqL K H a xs | true => SqT K H a xs
theorem sq_get {X : Cx} {pins : List (Addr × Obj)} {σ : St} {H : Hp} {s : Shared} {t : Bool} {a : Addr} {xs : List V} (I : Inv X pins σ H s) (h : Sq t X.K H a xs) : ∃ its : List Value, Vals xs its ∧ IsSq t s.heap a its.toArray ∧ xs.length ≤ sizeLine := by
  cases t
  · obtain ⟨its, rv, p, hz⟩ := I.list h
    exact ⟨its, rv, p.isList, hz⟩
  · obtain ⟨its, rv, p, hz⟩ := I.tuple h
    exact ⟨its, rv, p, hz⟩
theorem sq_inj {X : Cx} {pins : List (Addr × Obj)} {σ : St} {H : Hp} {s : Shared} {t : Bool} {a : Addr} {xs ys : List V} (I : Inv X pins σ H s) (h : Sq t X.K H a xs) (h' : Sq t X.K H a ys) : xs = ys := by
  cases t
  · exact I.list_inj h h'
  · exact I.tuple_inj h h'
def Itz (K : PySem.W.Frag) (t1 t2 : Bool) (a b : Addr) : It :=
  ⟨fun i H => ∃ xs ys x y, Sq t1 K H a xs ∧ Sq t2 K H b ys ∧ xs[i]? = some x ∧ ys[i]? = some y, fun i H v H' => ∃ c x y, v = .ref c ∧ H c = none ∧ H' = upd H c (.tup [x, y]) ∧ (∀ xs, Sq t1 K H a xs → xs[i]? = some x) ∧ ∀ ys, Sq t2 K H b ys → ys[i]? = some y,
    fun i H => ∃ xs ys, Sq t1 K H a xs ∧ Sq t2 K H b ys ∧ (xs.length ≤ i ∨ ys.length ≤ i)⟩
theorem zap {n l1 l2 : Nat} (h1 : l1 < n) (h2 : l2 < n) : ZApart (n + 4) (n + 2) (n + 3) n (n + 1) l1 l2 := by
  have e : ∀ a b : Nat, a ≠ b → (a : Addr) ≠ b := fun _ _ h => h
  refine ⟨⟨e _ _ ?_, e _ _ ?_, e _ _ ?_, e _ _ ?_, e _ _ ?_, e _ _ ?_, e _ _ ?_, e _ _ ?_, e _ _ ?_, e _ _ ?_⟩, e _ _ ?_, e _ _ ?_, e _ _ ?_, e _ _ ?_, e _ _ ?_, e _ _ ?_, e _ _ ?_, e _ _ ?_⟩ <;> omega
theorem turn_zip {P : Program} {w : World} {K : PySem.W.Frag} {elts : List Expr} {x1} {pos : Pos} (t1 t2 : Bool) (a b z TI TO i1 i2 : Addr) (D : ZApart z TI TO i1 i2 a b) : Turn P w K (.Tuple elts x1 pos) (Itz K t1 t2 a b) [z, TI, TO, i1, i2] z
    (fun i h => IsZip h z TI TO .none ∧ IsPair h TI (.ref i1) (.ref i2) ∧ (∃ u v, IsPair h TO u v) ∧ IsIt t1 h i1 a i ∧ IsIt t2 h i2 b i) where
  mem := by simp
  obj := fun i h q c hc => by
    obtain ⟨q1, q2, ⟨u, v, q3⟩, q4, q5⟩ := q
    simp only [List.mem_cons, List.not_mem_nil, or_false] at hc
    rcases hc with rfl | rfl | rfl | rfl | rfl
    · exact ⟨_, q1, fun v z => by cases z⟩
    · exact ⟨_, q2, fun v z => by cases z⟩
    · exact ⟨_, q3, fun v z => by cases z⟩
    · exact isIt_ob q4
    · exact isIt_ob q5
  keep := fun i h h' q k => by
    obtain ⟨q1, q2, ⟨u, v, q3⟩, q4, q5⟩ := q
    exact ⟨k z (by simp) _ q1, k TI (by simp) _ q2, ⟨u, v, k TO (by simp) _ q3⟩, isIt_at q4 fun o e => k i1 (by simp) o e, isIt_at q5 fun o e => k i2 (by simp) o e⟩
  item := by
    intro X hP hw hK hc i pins s σ H E I hf q hg
    obtain ⟨q1, q2, ⟨u, v, q3⟩, q4, q5⟩ := q
    subst hP hw hK
    obtain ⟨xs, ys, x, y, hq1, hq2, hx, hy⟩ := hg
    obtain ⟨its, rv, p, _⟩ := sq_get I hq1
    obtain ⟨jts, rv2, p2, _⟩ := sq_get I hq2
    obtain ⟨ux, hux, rux⟩ := rv.get hx
    obtain ⟨uy, huy, ruy⟩ := rv2.get hy
    have lt : ∀ c ∈ [z, TI, TO, i1, i2], c < s.heap.objs.size := fun c hc => by
      simp only [List.mem_cons, List.not_mem_nil, or_false] at hc
      rcases hc with rfl | rfl | rfl | rfl | rfl
      · exact Heap.lt_size q1
      · exact Heap.lt_size q2
      · exact Heap.lt_size q3
      · obtain ⟨o, e, _⟩ := isIt_ob q4; exact Heap.lt_size e
      · obtain ⟨o, e, _⟩ := isIt_ob q5; exact Heap.lt_size e
    have Dk := D.k
    refine nextZ_item Dk q1 q2 q3 q4 q5 p p2 (x := ux) (y := uy) (by simpa using hux) (by simpa using huy) fun h1 a1 a2 a3 a4 a5 a6 k1 => ?_
    refine ⟨_, rfl, wpAny_letOwnedTupleGo_zip a1 fun h2 e2 sb => ?_⟩
    have sb2 : Heap.SameBut z h1 h2 := sb
    have zl := lt z (by simp)
    have I2 : Inv X pins σ (upd H s.heap.objs.size (.tup [x, y])) { s with heap := h2, toks := s.toks } :=
      turnedT (fp := [z, TI, TO, i1, i2]) (its := [ux, uy]) I (fun c o hb e => sb2.extBut c o (fun y => hb (by simp [y])) (k1 c o (fun y => hb (by simp [y])) (fun y => hb (by simp [y])) (fun y => hb (by simp [y])) (fun y => hb (by simp [y])) e))
        lt ((sb2.2 _ (Nat.ne_of_gt zl)).trans a5) (.cons rux (.cons ruy .nil)) (by show (2 : Nat) ≤ sizeLine; decide) hf
    refine ⟨.ref s.heap.objs.size, _, I2, rfl, ⟨_, x, y, rfl, I.fresh, rfl, fun zs hz => by rw [sq_inj I hz hq1]; exact hx, fun zs hz => by rw [sq_inj I hz hq2]; exact hy⟩, ⟨e2, ?_, ⟨ux, uy, sb2.extBut _ _ Dk.TOz a2⟩, isIt_at a3 fun o e => sb2.extBut _ o Dk.i1z e, isIt_at a4 fun o e => sb2.extBut _ o Dk.i2z e⟩, fun c hc => ?_⟩
    · exact sb2.extBut _ _ Dk.TIz (k1 _ _ Dk.TIz Dk.TITO Dk.TIi1 Dk.TIi2 q2)
    · exact (fpOk_upd (hf c hc) (Nat.ne_of_lt (lt c hc))).1
  done := by
    intro X hP hw hK hc i pins s σ H E I hf q hg
    obtain ⟨q1, q2, ⟨u, v, q3⟩, q4, q5⟩ := q
    subst hP hw hK
    obtain ⟨xs, ys, hq1, hq2, hx⟩ := hg
    obtain ⟨its, rv, p, _⟩ := sq_get I hq1
    obtain ⟨jts, rv2, p2, _⟩ := sq_get I hq2
    have l1 := rv.length
    have l2 := rv2.length
    refine nextZ_end (I.ok.hd hc) D.k q1 q2 q3 q4 q5 p p2 ?_ fun h' k1 => ⟨rfl, turnedL (t' := s.toks) (fp := [z, TI, TO, i1, i2]) I (fun c o hb e => k1 c o (fun y => hb (by simp [y])) (fun y => hb (by simp [y])) (fun y => hb (by simp [y])) (fun y => hb (by simp [y])) e) hf⟩
    rcases hx with hx | hx
    · exact .inl (by simp; omega)
    · exact .inr (by simp; omega)
  self := fun _ _ _ _ _ q h => wpAny_pyIter_zip q.1 h
theorem boot_zip : bootBuiltins "zip" = some (.type "zip") := by decide +kernel
def iZip (K : PySem.W.Frag) (ta : TA) : TI := fun σ H R => ta σ H fun vs H1 => ∃ t1 t2 a b xs ys, vs = [.ref a, .ref b] ∧ Sq t1 K H1 a xs ∧ Sq t2 K H1 b ys ∧ (xs.length ≤ sizeLine → ys.length ≤ sizeLine → R (Itz K t1 t2 a b) H1)
theorem pi_zip {X : Cx} {a b : Expr} {ta : TA} {p pos : Pos} {elts : List Expr} {x1} {pt : Pos} (hg : Gl X "zip") (hm : X.mg "zip" = none) (ha : PA X [a, b] ta) (hs : starEach [a, b] X.env = (false, eval a X.env) :: starEach [b] X.env := by rfl) (hpl : (backTo pos (starEach [b] X.env)).any (·.1) = false := by rfl) :
    PI X (.Tuple elts x1 pt) (.Call (.Name "zip" p) [a, b] [] pos) (iZip X.K ta) := by
  intro pins s σ H R I h
  refine Call_ (ld_blt I hg hm boot_zip (PyProof.Rows.callWith_type1 (thn (ha pos pins s σ H _ I h) fun us s1 ⟨vs, H1, I1, r1, q1⟩ => ?_) hs hpl))
  obtain ⟨t1, t2, l1, l2, xs, ys, rfl, hq1, hq2, q⟩ := q1
  cases r1 with
  | cons r rr =>
    cases rr with
    | cons r' rr =>
      cases rr
      cases r
      cases r'
      obtain ⟨its, rv, p1, hz1⟩ := sq_get I1 hq1
      obtain ⟨jts, rv2, p2, hz2⟩ := sq_get I1 hq2
      have n1 : l1 < s1.heap.objs.size := by cases t1 <;> exact let ⟨o, e, _⟩ := p1; Heap.lt_size e
      have n2 : l2 < s1.heap.objs.size := by cases t2 <;> exact let ⟨o, e, _⟩ := p2; Heap.lt_size e
      refine call_zipB p1 p2 fun h' e1 e2 e3 e4 e5 kp => ?_
      refine wpAny_pyIter_zip e1 ⟨s1.heap.objs.size + 4, [s1.heap.objs.size + 4, s1.heap.objs.size + 2, s1.heap.objs.size + 3, s1.heap.objs.size, s1.heap.objs.size + 1], _, _, H1, rfl, I1.kept (t' := s1.toks) kp,
        turn_zip t1 t2 l1 l2 _ _ _ _ _ (zap n1 n2), ⟨e1, e2, ⟨_, _, e3⟩, e4, e5⟩, fun c hc => ?_, q hz1 hz2⟩
      have hb2 : s1.heap.objs.size ≤ c := by
        simp only [List.mem_cons, List.not_mem_nil, or_false] at hc
        rcases hc with rfl | rfl | rfl | rfl | rfl
        · exact Nat.le_add_right _ _
        · exact Nat.le_add_right _ _
        · exact Nat.le_add_right _ _
        · exact Nat.le_refl _
        · exact Nat.le_add_right _ _
      exact I1.fpOk hb2 (I1.hok.fresh hb2)
def zipD (xs ys : List D) : List D := List.zipWith (fun x y => .tup [x, y]) xs ys
theorem itd_zip {K : PySem.W.Frag} {F : Hp} {t1 t2 : Bool} {a b : Addr} {vs us : List V} {xs ys : List D} (hq1 : ∀ H1, Same F H1 → Sq t1 K H1 a vs) (hq2 : ∀ H1, Same F H1 → Sq t2 K H1 b us) (r1 : Reps K F xs vs) (r2 : Reps K F ys us) (hz : vs.length ≤ sizeLine) : ItD K F noH (Itz K t1 t2 a b) (zipD xs ys) := by
  have l1 := reps_len r1
  have l2 := reps_len r2
  have lz : (zipD xs ys).length = min xs.length ys.length := List.length_zipWith
  refine ⟨by omega, fun i H2 F2 s2 s3 _ => ⟨fun e => ⟨vs, us, hq1 H2 (s2.trans s3), hq2 H2 (s2.trans s3), by omega⟩, fun d hd => ?_⟩⟩
  unfold zipD at hd
  rw [List.getElem?_zipWith] at hd
  cases e1 : xs[i]? with
  | none => rw [e1] at hd; cases hd
  | some x =>
    cases e2 : ys[i]? with
    | none => rw [e1, e2] at hd; cases hd
    | some y =>
      rw [e1, e2] at hd; cases hd
      obtain ⟨v, hv, rv⟩ := reps_get r1 e1
      obtain ⟨u, hu, ru⟩ := reps_get r2 e2
      refine ⟨⟨vs, us, v, u, hq1 H2 (s2.trans s3), hq2 H2 (s2.trans s3), hv, hu⟩, fun w H' z => ?_⟩
      obtain ⟨c, v2, u2, rfl, hc, rfl, z1, z2⟩ := z
      have := z1 vs (hq1 H2 (s2.trans s3))
      rw [hv] at this; cases this
      have := z2 us (hq2 H2 (s2.trans s3))
      rw [hu] at this; cases this
      have gr := Gr.laid (o := HO.tup [v, u]) s3 hc
      refine ⟨_, gr, ?_⟩
      unfold Rep
      exact ⟨c, _, rfl, .inl (.inl upd_same), reps_cons ((rv.up s2).up gr.f) (reps_cons ((ru.up s2).up gr.f) (by unfold Reps; rfl))⟩
def sqD : D → Option (Bool × List D) | .lst xs => some (false, xs) | .tup xs => some (true, xs) | _ => none
def i_zip (t : TF2) : TF2 := fun Γ P E => t Γ (fun ds Γ1 => match ds with | [x, y] => (match x, y with | .lst xs, .lst ys => P (zipD xs ys) Γ1 | .tup xs, .tup ys => P (zipD xs ys) Γ1 | _, _ => False) | _ => False) E
section
variable {X : Cx} {F0 H0 : Hp} {a b e tg : Expr} {es : List Expr} {pos p pt : Pos} {te : TE2} {t : TF2} {elts : List Expr}
theorem qi_zip {x1} (hc : X.calm = true) (hg : Gl X "zip") (hm : X.mg "zip" = none) (ha : QA X F0 H0 [a, b] t) (hs : starEach [a, b] X.env = (false, eval a X.env) :: starEach [b] X.env := by rfl) (hpl : (backTo pos (starEach [b] X.env)).any (·.1) = false := by rfl) :
    QI X F0 H0 (.Tuple elts x1 pt) (.Call (.Name "zip" p) [a, b] [] pos) (i_zip t) := fun z E cx => piC (pi_zip (X := X.wsh z) hg hm (ha z E cx) hs hpl) fun σ H R ⟨F, Γ, P, S, q, k⟩ => ⟨F, Γ, _, S, q, fun ds Γ1 F1 H1 vs R1 s1 r1 h1 => by
    unfold i_zip at *
    split at h1
    · split at h1
      · unfold Reps Reps Reps Rep at r1
        obtain ⟨v, _, rfl, ⟨l, us, rfl, hq, rs⟩, ⟨v2, _, rfl, ⟨l2, us2, rfl, hq2, rs2⟩, rfl⟩⟩ := r1
        exact ⟨false, false, l, l2, us, us2, rfl, R1.g.seq hq, R1.g.seq hq2, fun hz _ => k _ Γ1 F1 H1 _ R1 s1 (itd_zip (t1 := false) (t2 := false) (fun H s => s.seq hq) (fun H s => s.seq hq2) rs rs2 hz) h1⟩
      · unfold Reps Reps Reps Rep at r1
        obtain ⟨v, _, rfl, ⟨l, us, rfl, hq, rs⟩, ⟨v2, _, rfl, ⟨l2, us2, rfl, hq2, rs2⟩, rfl⟩⟩ := r1
        exact ⟨true, true, l, l2, us, us2, rfl, sqT_mono R1.g hq, sqT_mono R1.g hq2, fun hz _ => k _ Γ1 F1 H1 _ R1 s1 (itd_zip (t1 := true) (t2 := true) (fun H s => sqT_mono s hq) (fun H s => sqT_mono s hq2) rs rs2 hz) h1⟩
      · exact h1.elim
    · exact h1.elim⟩
end
end L3

namespace L3
open PySem PySem.Spec PyProof.Rows L2

def lookD : List Str → List D → Str → Option D
  | f :: fs, d :: ds, g => if g = f then some d else lookD fs ds g
  | _, _, _ => none
def cFld (C : Addr) (f : Str) (te : TE2) : TE2 := fun Γ P E => te Γ (fun d Γ1 => match d with | .obj C' fs ds => C' = C ∧ ∃ x, lookD fs ds f = some x ∧ P x Γ1 | _ => False) E
def cMeth (C : Addr) (m : Str) (sp : Sp2) (te : TE2) (t : TF2) : TE2 := fun Γ P E => te Γ (fun d Γ1 => match d with
  | .obj C' fs ds => C' = C ∧ m ∉ fs ∧ t Γ1 (fun es Γ2 => sp (.obj C' fs ds :: es) (fun r => P r Γ2) fun Cx => E Γ2 Cx) E
  | _ => False) E
section
variable {X : Cx} {F0 H0 : Hp} {e o : Expr} {es : List Expr} {pos p apos : Pos} {f m : Str} {C fa : Addr} {fd : FuncData} {ps : List Str} {k : Nat} {sp : Sp2} {te : TE2} {t : TF2}
end

def spInit (K : PySem.W.Frag) (C : Addr) (f : Str) (sp : Sp2) : Sp := fun vs H Q E => ∃ x dx rest F ds Pd Ex, vs = .ref x :: rest ∧ H x = some (.ins C dx []) ∧ H dx = some (.own x) ∧ dx ≠ x ∧ Same F H ∧ F x = none ∧ F dx = none ∧ Reps K F ds rest ∧ sp ds Pd Ex ∧
  (∀ d F' H' H3 v, Gr F H F' H3 → Rep K F' d v → Pd d → H' = upd H3 x (.ins C dx [(f, v)]) → Q .non H') ∧ ∀ C' H', Ex C' → Same H H' → E C' none H'
def spObj (C : Addr) (f : Str) (sp : Sp2) : Sp2 := fun ds P E => sp ds (fun d => P (.obj C [f] [d])) E
section
variable {P : Program} {w : World} {K : PySem.W.Frag} {mg : Str → Option Value} {base : Heap}
end
section
variable {X : Cx} {F0 H0 : Hp} {e : Expr} {es : List Expr} {pos p : Pos} {x fl : Str} {C f : Addr} {fd : FuncData} {ps : List Str} {k : Nat} {sp : Sp2} {t : TF2}
end

structure Mt2 (P : Program) (w : World) (K : PySem.W.Frag) (mg : Str → Option Value) (base : Heap) (C : Addr) (m : Str) (k : Nat) (ps : List Str) (sp : Sp2) : Prop where
  ex : ∃ f fd, FnOk P w K mg base (CX1 P w) k f fd ps (spUp K sp) ∧ Meth K C m f ∧ Binds K fd ps []
structure Mk2 (P : Program) (w : World) (K : PySem.W.Frag) (mg : Str → Option Value) (base : Heap) (x : Str) (C : Addr) (fl : Str) (k : Nat) (ps : List Str) (sp : Sp2) : Prop where
  ex : ∃ f fd, FnOk P w K mg base (CX1 P w) k f fd ps (spInit K C fl sp) ∧ Mk K C f ∧ mg x = some (.ref C) ∧ Binds K fd ps []
def cSlT (te : TE2) (tl th : TO2) : TE2 := fun Γ P E => te Γ (fun d Γ1 => tl Γ1 (fun l Γ2 => th Γ2 (fun u Γ3 => match d with | .tup xs => ¬ (HT.sIx xs.length 0 l = 0 ∧ HT.sIx xs.length xs.length u = xs.length) ∧ P (.tup (cutD xs l u)) Γ3 | _ => False) E) E) E
section
variable {X : Cx} {F0 H0 : Hp} {e o : Expr} {lo hi : Option Expr} {es : List Expr} {pos p p2 apos : Pos} {x m fl : Str} {C : Addr} {ps : List Str} {k : Nat} {sp : Sp2} {te : TE2} {tl th : TO2} {t : TF2}
def spNo : Sp2 := fun _ _ _ => False
end
end L3

namespace L3
open PySem PySem.Spec PyProof.Rows L2

def OwnA (Γ : G2) (σ : St) (b : Addr) : Prop := ∃ (j : Nat) (ds : List D), Γ[j]? = some (.ow ds) ∧ σ[j]? = some (some (.ref b))
open Classical in
theorem sr_peek2 {K : PySem.W.Frag} {F0 H0 F H : Hp} {σ : St} {Γ : G2} (R : SR K F0 H0 F H σ Γ) : ∃ F1, Same F F1 ∧ SR K F1 H F1 H σ (frzG Γ) ∧ (∀ b, F b = none → ¬ OwnA Γ σ b → F1 b = none) ∧ ∀ b, OwnA Γ σ b → F b = none ∧ ∃ vs, F1 b = some (.lst vs) := by
  let F1 : Hp := fun b => if (F b).isSome then F b else if OwnA Γ σ b then H b else none
  have s1 : Same F F1 := fun b u e => by show (if _ then _ else _) = _; rw [if_pos (by rw [e]; rfl)]; exact e
  have s2 : Same F1 H := fun b u e => by
    have e' : (if (F b).isSome then F b else if OwnA Γ σ b then H b else none) = some u := e
    split at e'
    · exact R.g b u e'
    · split at e'
      · exact e'
      · cases e'
  have noow : ∀ (i : Nat) ds, (frzG Γ)[i]? ≠ some (.ow ds) := fun i ds e => by
    unfold frzG at e
    rw [List.getElem?_map] at e
    cases q : Γ[i]? with
    | none => rw [q] at e; cases e
    | some s => rw [q] at e; cases s <;> cases e
  have own : ∀ b, OwnA Γ σ b → F b = none ∧ ∃ vs, F1 b = some (.lst vs) := fun b hb => by
    obtain ⟨j, ds, e1, e2⟩ := id hb
    obtain ⟨o, e3, a, vs, rfl, h1, h2, _⟩ := R.sl j _ e1
    rw [e2] at e3; cases e3
    refine ⟨h2, vs, ?_⟩
    show (if (F b).isSome then F b else if OwnA Γ σ b then H b else none) = _
    rw [if_neg (by rw [h2]; exact Bool.false_ne_true), if_pos hb]
    exact h1
  refine ⟨F1, s1, ⟨Gr.refl s2, by rw [frzG, List.length_map]; exact R.len, fun i s e => ?_, fun i j a ds es e => absurd e (noow i ds)⟩, fun b hb hn => ?_, own⟩
  · unfold frzG at e
    rw [List.getElem?_map] at e
    cases q : Γ[i]? with
    | none => rw [q] at e; cases e
    | some sl =>
      rw [q] at e
      obtain ⟨o, e1, r⟩ := R.sl i sl q
      refine ⟨o, e1, ?_⟩
      cases sl with
      | no => cases e; trivial
      | pu d => cases e; obtain ⟨v, rfl, rv⟩ := r; exact ⟨v, rfl, rv.up s1⟩
      | ow ds =>
        cases e
        obtain ⟨a, vs, rfl, h1, h2, h3, rs⟩ := r
        refine ⟨.ref a, rfl, ?_⟩
        unfold Rep
        refine ⟨a, vs, rfl, .inl (.inl ?_), rs.up s1⟩
        show (if (F a).isSome then F a else if OwnA Γ σ a then H a else none) = _
        rw [if_neg (by rw [h2]; exact Bool.false_ne_true), if_pos ⟨i, ds, q, e1⟩]
        exact h1
  · show (if (F b).isSome then F b else if OwnA Γ σ b then H b else none) = none
    rw [if_neg (by rw [hb]; exact Bool.false_ne_true), if_neg hn]
mutual
def nolD : D → Prop
  | .lst _ => False
  | .exc _ => False
  | .dic _ _ => False
  | .dit _ _ => False
  | .tup xs => nolDs xs
  | .obj _ _ xs => nolDs xs
  | _ => True
def nolDs : List D → Prop
  | [] => True
  | d :: ds => nolD d ∧ nolDs ds
end
section
variable {K : PySem.W.Frag} {F F' : Hp} {A : Addr → Prop}
mutual
theorem rep_cut (hA : ∀ b u, F b = some u → (∃ vs, u = .lst vs) ∨ F' b = some u) : ∀ (d : D) (v : V), nolD d → Rep K F d v → Rep K F' d v
  | .non, _, _, h => by unfold Rep at h ⊢; exact h
  | .bl _, _, _, h => by unfold Rep at h ⊢; exact h
  | .int _, _, _, h => by unfold Rep at h ⊢; exact h
  | .str _, _, _, h => by unfold Rep at h ⊢; exact h
  | .ptr _, _, _, h => by unfold Rep at h ⊢; exact h
  | .tup ds, _, n, h => by
    unfold nolD at n
    unfold Rep at h ⊢
    obtain ⟨a, vs, h0, h1, h2⟩ := h
    refine ⟨a, vs, h0, ?_, reps_cut2 hA ds vs n h2⟩
    rcases h1 with (h1 | ⟨o, h1⟩) | h1
    · rcases hA _ _ h1 with ⟨_, z⟩ | z
      · cases z
      · exact .inl (.inl z)
    · rcases hA _ _ h1 with ⟨_, z⟩ | z
      · cases z
      · exact .inl (.inr ⟨o, z⟩)
    · exact .inr h1
  | .obj C fs ds, _, n, h => by
    unfold nolD at n
    unfold Rep at h ⊢
    obtain ⟨a, dx, vs, h0, h1, h2, h3, h4⟩ := h
    refine ⟨a, dx, vs, h0, ?_, ?_, h3, reps_cut2 hA ds vs n h4⟩
    · rcases hA _ _ h1 with ⟨_, z⟩ | z
      · cases z
      · exact z
    · rcases hA _ _ h2 with ⟨_, z⟩ | z
      · cases z
      · exact z
  | .lst _, _, n, _ => by unfold nolD at n; exact n.elim
  | .exc _, _, n, _ => by unfold nolD at n; exact n.elim
  | .dic _ _, _, n, _ => by unfold nolD at n; exact n.elim
  | .dit _ _, _, n, _ => by unfold nolD at n; exact n.elim
theorem reps_cut2 (hA : ∀ b u, F b = some u → (∃ vs, u = .lst vs) ∨ F' b = some u) : ∀ (ds : List D) (vs : List V), nolDs ds → Reps K F ds vs → Reps K F' ds vs
  | [], _, _, h => by unfold Reps at h ⊢; exact h
  | d :: ds, _, n, h => by
    unfold nolDs at n
    unfold Reps at h ⊢
    obtain ⟨v, r, h0, h1, h2⟩ := h
    exact ⟨v, r, h0, rep_cut hA d v n.1 h1, reps_cut2 hA ds r n.2 h2⟩
end
end
def cLend (te : TE2) : TE2 := fun Γ P _ => te (frzG Γ) (fun d _ => nolD d ∧ P d Γ) noX
section
variable {X : Cx} {F0 H0 : Hp} {e : Expr} {te : TE2}
open Classical in
end
end L3

namespace L3
open PySem PySem.Spec PyProof.Rows L2
theorem reps_put {K : PySem.W.Frag} {F : Hp} {d : D} {v : V} (h : Rep K F d v) : ∀ {ds : List D} {vs : List V} (j : Nat), Reps K F ds vs → Reps K F (ds.set j d) (vs.set j v)
  | [], vs, j, r => by unfold Reps at r; subst r; unfold Reps; rfl
  | x :: ds, vs, j, r => by
    unfold Reps at r
    obtain ⟨u, us, rfl, r1, r2⟩ := r
    cases j with
    | zero => exact reps_cons h r2
    | succ j => exact reps_cons r1 (reps_put h j r2)
def cPut (i : Nat) (ti te : TE2) : TS2 := fun D Γ E => te Γ (fun d Γ1 => (∃ xs, Γ1[i]? = some (.ow xs)) ∧ ti Γ1 (fun k Γ2 => match k, Γ2[i]? with
  | .int k, some (.ow xs) => ∃ j, ixN xs.length k = some j ∧ D.nx (Γ2.set i (.ow (xs.set j d)))
  | _, _ => False) E) E
section
variable {X : Cx} {F0 H0 : Hp} {x : Str} {pos pos' npos : Pos} {e k : Expr} {i : Nat} {te ti : TE2}
theorem qs_put (hN : X.N[i]? = some x) (hv : Vis X.env.scope x) (hk : QE X F0 H0 k ti) (he : QE X F0 H0 e te) (hd : (x == ("__debug__" : Str)) = false := by decide) (hcd : (x == ("__classdict__" : Str)) = false := by decide)
    (ha : ∀ v, assign (.Subscript (.Name x npos) k pos') X.env v = (do
      let ov ← holding [v] (eval (.Name x npos) X.env)
      let iv ← holding [v, ov] (eval k X.env)
      standAt pos'
      holding [v, ov, iv] (setItem ov iv v)
      release [v, ov, iv] []) := by intro _; rfl)
    (hs : swapsWithSole [.Subscript (.Name x npos) k pos'] e pos.line X.env = pure false := by rfl) (hw : swappedStores [.Subscript (.Name x npos) k pos'] e X.env = pure none := by rfl)
    (h1 : (assignEach [.Subscript (.Name x npos) k pos'] X.env).map (·.2) = [assign (.Subscript (.Name x npos) k pos') X.env] := by rfl) :
    QS X F0 H0 (.Assign [.Subscript (.Name x npos) k pos'] e pos) (cPut i ti te) := fun z E cx =>
  psC (ps_asg (X := X.wsh z) (he z E cx) (pg_sub (X := X.wsh z) (pe_var (X := X.wsh z) (i := i) hN hv hd hcd) (hk z E cx) set_list ha) hs hw h1) fun Dn σ H ⟨F, Γ, D2, R, h, kk⟩ => ⟨F, Γ, _, R, h, fun d Γ1 F1 H1 v R1 s1 r1 h1 => by
    obtain ⟨⟨xs, e0⟩, h2⟩ := h1
    obtain ⟨o, e1, a, vs, rfl, g1, g2, g3, r⟩ := R1.sl i _ e0
    refine ⟨.ref a, e1, F1, Γ1, _, R1, h2, fun k Γ2 F2 H2 kv R2 s2 rk q => ?_⟩
    split at q
    · rename_i k' xs' e2
      obtain ⟨j, hj, q⟩ := q
      obtain ⟨o, e3, a', ws, rfl, w1, w2, w3, rw'⟩ := R2.sl i _ e2
      rw [e1] at e3; cases e3
      unfold Rep at rk
      subst rk
      have hl := reps_len rw'
      refine ⟨a, ws, k', j, rfl, rfl, w1, by rw [← hl]; exact hj, ?_⟩
      exact kk.nx _ _ _ _ (R2.wr e2 e1 (reps_put (r1.up s2) j rw')) (s1.trans s2) q
    · exact q.elim⟩
end
end L3

namespace L3
open PySem PySem.Spec PyProof.Rows L2

section
variable (K : PySem.W.Frag) (F0 H0 : Hp)
def upR (t : TE2) (E : XW) : TE := fun σ H Q => ∃ F Γ P, SR K F0 H0 F H σ Γ ∧ t Γ P E ∧ ∀ d Γ' F' H' v, SR K F0 H0 F' H' σ Γ' → Same F F' → Rep K (lessL F0 F') d v → P d Γ' → Q v H'
def upAR (t : TF2) (E : XW) : TA := fun σ H Q => ∃ F Γ P, SR K F0 H0 F H σ Γ ∧ t Γ P E ∧ ∀ ds Γ' F' H' vs, SR K F0 H0 F' H' σ Γ' → Same F F' → Reps K (lessL F0 F') ds vs → P ds Γ' → Q vs H'
end
def QR (X : Cx) (F0 H0 : Hp) (e : Expr) (t : TE2) : Prop := ∀ z E, Ctx (X.wsh z) F0 H0 E → PE (X.wsh z) e (upR X.K F0 H0 t E)
def QRA (X : Cx) (F0 H0 : Hp) (es : List Expr) (t : TF2) : Prop := ∀ z E, Ctx (X.wsh z) F0 H0 E → PA (X.wsh z) es (upAR X.K F0 H0 t E)
section
variable {X : Cx} {F0 H0 : Hp} {e : Expr} {es : List Expr} {pos : Pos} {te : TE2}
def cNl (te : TE2) : TE2 := fun Γ P E => te Γ (fun d Γ1 => nolD d ∧ P d Γ1) E
theorem qr_val (h : QE X F0 H0 e te) : QR X F0 H0 e (cNl te) := fun z E cx =>
  peC (h z E cx) fun σ H Q ⟨F, Γ, P, R, h, k⟩ => ⟨F, Γ, _, R, h, fun d Γ1 F1 H1 v R1 s1 r1 h1 => k d Γ1 F1 H1 v R1 s1 (rep_cut (lessL_cut R1.gr.f) d v h1.1 r1) h1.2⟩
def cOwR (i : Nat) : TE2 := fun Γ P _ => match Γ[i]? with
  | some (.ow ds) => nolDs ds ∧ P (.lst ds) (Γ.set i (.pu (.lst ds)))
  | _ => False
theorem seqL_less {K : PySem.W.Frag} {F : Hp} {a : Addr} {vs : List V} (h0 : F0 a = none) (h : SqL K F a vs) : SqL K (lessL F0 F) a vs := by
  have e : lessL F0 F a = F a := lessL_not fun vs q => by rw [h0] at q; cases q
  rcases h with h | h
  · left
    unfold Rd at h ⊢
    rw [e]
    exact h
  · exact .inr h
theorem qr_own {i : Nat} {x : Str} (hN : X.N[i]? = some x) (hv : Vis X.env.scope x) (hd : (x == ("__debug__" : Str)) = false := by decide) (hcd : (x == ("__classdict__" : Str)) = false := by decide) : QR X F0 H0 (.Name x pos) (cOwR i) := fun z E cx =>
  peC (pe_var (X := X.wsh z) (i := i) hN hv hd hcd) fun σ H Q ⟨F, Γ, P, R, h, k⟩ => by
    unfold cOwR at h
    split at h
    · rename_i ds e
      obtain ⟨o, e0, a0, vs0, rfl, g1, g2, g3, g4⟩ := R.sl i _ e
      obtain ⟨a, F', e1, s1, R', r⟩ := R.frz e
      rw [e0] at e1; cases e1
      have f0 : F0 a0 = none := R.gr.f.free g2
      refine ⟨.ref a0, e0, k _ _ F' H _ R' s1 ?_ h.2⟩
      unfold Rep at r ⊢
      obtain ⟨a', vs, e2, hq, rs⟩ := r
      cases e2
      exact ⟨a0, vs, rfl, seqL_less f0 hq, reps_cut2 (lessL_cut R'.gr.f) ds vs h.1 rs⟩
    · exact h.elim
def cOfR (t : TF2) : TE2 := fun Γ P E => t Γ (fun ds Γ1 => nolDs ds ∧ P (.lst ds) Γ1) E
theorem qra_nil : QRA X F0 H0 [] cNil := fun z E cx => paC pa_nil fun σ H Q ⟨F, Γ, P, R, h, k⟩ => k _ _ _ _ _ R (.refl _) (by unfold Reps; rfl) h
theorem qra_cons {tr : TF2} (ha : QR X F0 H0 e te) (hr : QRA X F0 H0 es tr) (hs : starEach (e :: es) X.env = (false, eval e X.env) :: starEach es X.env := by rfl) : QRA X F0 H0 (e :: es) (cCons te tr) := fun z E cx =>
  paC (pa_cons (X := X.wsh z) (ha z E cx) (hr z E cx) hs) fun σ H Q ⟨F, Γ, P, R, h, k⟩ =>
    ⟨F, Γ, _, R, h, fun d Γ1 F1 H1 v1 R1 s1 r1 h1 => ⟨F1, Γ1, _, R1, h1, fun ds Γ2 F2 H2 vs R2 s2 r2 h2 => k _ _ _ _ _ R2 (s1.trans s2) (reps_cons (r1.up (lessL_mono s2)) r2) h2⟩⟩
theorem qr_tup {x1} {t : TF2} (h : QRA X F0 H0 es t) : QR X F0 H0 (.Tuple es x1 pos) (cTup t) := fun z E cx =>
  peC (pe_tup (h z E cx)) fun σ H Q ⟨F, Γ, P, R, h, k⟩ => ⟨F, Γ, _, R, h, fun ds Γ1 F1 H1 vs R1 s1 r1 h1 => ⟨by rw [← reps_len r1]; exact h1.1, fun p hp => by
    have gr := Gr.laid (o := HO.tup vs) R1.g hp
    refine k _ _ _ _ _ (R1.grow gr) (s1.trans gr.f) ?_ h1.2
    have f0 : F0 p = none := R1.gr.f.free (R1.g.free hp)
    unfold Rep
    refine ⟨p, vs, rfl, .inl (.inl ?_), r1.up (lessL_mono gr.f)⟩
    rw [lessL_not fun vs q => by rw [f0] at q; cases q]
    exact upd_same⟩⟩
def cRetR (te : TE2) : TS2 := fun D Γ E => te Γ (fun d _ => D.rf d) E
theorem qs_retR (he : QR X F0 H0 e te) : QS X F0 H0 (.Return (some e) pos) (cRetR te) := fun z E cx =>
  psC (ps_ret (he z E cx)) fun D σ H ⟨F, Γ, D2, R, h, k⟩ => ⟨F, Γ, _, R, h, fun d Γ1 F1 H1 v R1 s1 r1 h1 => k.rf _ _ _ _ R1.gr r1 h1⟩
end

def spUpR (K : PySem.W.Frag) (sp : Sp2) : Sp := fun vs H Q E => ∃ F ds P Ex, Same F H ∧ Reps K F ds vs ∧ sp ds P Ex ∧ (∀ d v F' H', Gr F H F' H' → Rep K (lessL F F') d v → P d → Q v H') ∧ ∀ C H', Ex C → Same H H' → E C none H'
structure Fn2R (P : Program) (w : World) (K : PySem.W.Frag) (mg : Str → Option Value) (base : Heap) (x : Str) (k : Nat) (ps : List Str) (sp : Sp2) : Prop where
  ex : ∃ f fd, FnOk P w K mg base (CX1 P w) k f fd ps (spUpR K sp) ∧ mg x = some (.ref f) ∧ PySem.W.keepIn K (.ref f) = true ∧ Binds K fd ps []
section
variable {P : Program} {w : World} {K : PySem.W.Frag} {mg : Str → Option Value} {base : Heap}
theorem fn2R {x qual : Str} {st : Stmt} {f : Addr} {fd : FuncData} {N ps : List Str} {k : Nat} {sp : Sp2} (Fn : Fun K x qual st f fd) (S : FnScope N ps (defScope st)) (len : ∀ ds Q E, sp ds Q E → ds.length = ps.length)
    (hbody : ∀ (cdv : Value) (A : Around) (outer : List Env) (s : Shared) (H : Hp) (E : XK), Room k (A.deeper (envOfC qual (defScope st) s.heap.objs.size f cdv)) → ∀ F0 : Hp,
      ∃ t, QSs (cxOf (CX1 P w) P w K mg base N qual (defScope st) f cdv A outer s H E) F0 H (defBody st) t ∧ ∀ ds Q Ex, sp ds Q Ex → t { nx := fun _ => Q .non, rt := fun _ => False, rf := Q } (start2 N ds) fun _ => Ex) :
    FnOk P w K mg base (CX1 P w) (k + 1) f fd ps (spUpR K sp) := by
  obtain ⟨oc, od, kV, doc, pm, an, cdv, ct, osl, rfl, lk, hcd⟩ := Fn.ex
  refine fn_of lk hcd S (fun vs H Q E ⟨F, ds, P', Ex, _, rs, hs, _⟩ => by rw [← reps_len rs]; exact len _ _ _ hs) fun A outer s H vs Q E hr ⟨F0, ds, Pd, Ex, sF, rs, hsp, hQ, hE⟩ => ?_
  obtain ⟨t, ht, hq⟩ := hbody cdv A outer s H E hr F0
  have cx : Ctx ((cxOf (CX1 P w) P w K mg base N qual (defScope st) f cdv A outer s H E).wsh ⟨(cxOf (CX1 P w) P w K mg base N qual (defScope st) f cdv A outer s H E).xe, []⟩) F0 H (fun _ => Ex) := by
    refine ⟨fun pins σ Γ F H1 s1 e s' I R hx => ?_, PassesOwn.leaving⟩
    refine thn (pass_leave (E := fun C dx H' => E C dx H') I rfl rfl rfl (hx.imp fun C dx H' z => ?_)) fun _ s'' z => z
    obtain ⟨z1, rfl, z3⟩ := z
    exact hE C H' z1 (R.gr.h.trans z3)
  exact ⟨_, ht _ _ cx, F0, start2 N ds, { nx := fun _ => Pd .non, rt := fun _ => False, rf := Pd }, sr_start sF rs, hq ds Pd Ex hsp, ⟨fun Γ F' H' σ R' _ q => hQ _ _ _ _ R'.gr (by unfold Rep; rfl) q, fun _ _ _ _ _ _ q => q, fun _ _ _ _ _ _ q => q, fun _ _ _ _ _ _ q => q.elim, fun d v F' H' gr rv q => hQ d v F' H' gr rv q⟩⟩
end
section
variable {X : Cx} {F0 H0 : Hp} {e : Expr} {es : List Expr} {pos p : Pos} {x : Str} {f : Addr} {fd : FuncData} {ps : List Str} {k : Nat} {sp : Sp2} {t : TF2} {te : TE2}
theorem run2R {z : Wsh} {E : XW} {pins : List (Addr × Obj)} {s : Shared} {σ : St} {F H : Hp} {Γ : G2} {us : List Value} {vs : List V} {ds : List D} {P : D → Prop} {Q : VK} (Fn : FnOk X.prog X.w X.K X.mg X.base (CX1 X.prog X.w) k f fd ps (spUpR X.K sp)) (hr : Room k X.A) (hb : Binds X.K fd ps []) (cx : Ctx (X.wsh z) F0 H0 E)
    (I : Inv (X.wsh z) pins σ H s) (R : SR X.K F0 H0 F H σ Γ) (r : Vals vs us) (rs : Reps X.K F ds vs) (h : sp ds P fun C => E Γ C) (hQ : ∀ d v F' H', Gr F H F' H' → Rep X.K (lessL F F') d v → P d → Q v H') :
    wpAny (model X.prog X.w) X.A (call (.ref f) us) (EP (X.wsh z) pins σ Q) z.xe s := by
  have hs : spUpR X.K sp vs H Q (fun C dx H' => E Γ C ∧ dx = none ∧ Same H H') := ⟨F, ds, P, _, R.g, rs, h, hQ, fun C H' hE hS => ⟨hE, rfl, hS⟩⟩
  have hl : (us ++ []).length = ps.length := by rw [List.append_nil, ← r.length]; exact Fn.len _ _ _ _ hs
  have hbs := hb s us I.kIn hl
  rw [List.append_nil] at hbs
  refine wpAny_call (codeAny_mono (Fn.run X.A X.stack s H ⟨us, []⟩ us vs Q _ hr I.env0 hbs r hs) fun r s' hq => ?_)
  cases r with
  | error e => exact cx.px pins σ Γ F H s e s' I R hq
  | ok fl =>
    cases fl with
    | ret u => exact I.after hq
    | next => exact False.elim hq
    | brk => exact False.elim hq
    | cont => exact False.elim hq
theorem qr_callF (G : Fn2R X.prog X.w X.K X.mg X.base x k ps sp) (hr : Room k X.A) (hg : Gl X x) (ha : QA X F0 H0 (e :: es) t) (hdb : (x == ("__debug__" : Str)) = false := by decide) (he : starEach (e :: es) X.env = (false, eval e X.env) :: starEach es X.env := by rfl) (hpl : (backTo pos (starEach es X.env)).any (·.1) = false := by rfl) :
    QR X F0 H0 (.Call (.Name x p) (e :: es) [] pos) (cCall sp t) := by
  obtain ⟨f, fd, Fn, hm, hk, hb⟩ := G.ex
  intro z E cx pins s σ H Q I ⟨F, Γ, P, R, h, kk⟩
  refine wpAny_Call_Name_kw (ld_glob (X := X.wsh z) I hg hm ?_ hdb)
  refine PySem.W.callWith_K (h₀ := X.base) I.ok.mod.kin hk (thn (ha z E cx pos pins s σ H (fun vs H1 => ∃ F1 Γ1 ds, SR X.K F0 H0 F1 H1 σ Γ1 ∧ Same F F1 ∧ Reps X.K F1 ds vs ∧ sp ds (fun d => P d Γ1) fun C => E Γ1 C) I ⟨F, Γ, _, R, h, fun ds Γ1 F1 H1 vs R1 s1 r1 h1 => ⟨F1, Γ1, ds, R1, s1, r1, h1⟩⟩) fun us s1 ⟨vs, H1, I1, r, F1, Γ1, ds, R1, sF, rs, q⟩ => ⟨I1.kIn, ?_⟩) he hpl
  exact run2R Fn hr hb cx I1 R1 r rs q fun d v F' H' gr rv hp => kk d Γ1 F' H' v (R1.grow gr) (sF.trans gr.f) (rv.up (lessL_anti R1.gr.f)) hp
def cLendR (te : TE2) : TE2 := fun Γ P _ => te (frzG Γ) (fun d _ => P d Γ) noX
open Classical in
theorem qe_lendR (h : ∀ F0 H0, QR X F0 H0 e te) : QE X F0 H0 e (cLendR te) := fun z E cx => by
  intro pins s σ H Q I ⟨F, Γ, P, R, q, k⟩
  obtain ⟨F1, s1, R1, n1, o1⟩ := sr_peek2 R
  refine h F1 H z noX (ctx_peek cx) pins s σ H Q I ⟨F1, frzG Γ, _, R1, q, fun d Γ' F' H' v R' s' r hp => ?_⟩
  have gr : Gr F H (fun b => if OwnA Γ σ b then none else F' b) H' := by
    refine ⟨fun b u e => ?_, fun b u e => ?_, R'.gr.h, fun b o e n => ?_⟩
    · show (if OwnA Γ σ b then none else F' b) = some u
      rw [if_neg (fun hb => by rw [(o1 b hb).1] at e; cases e)]
      exact s' _ _ (s1 _ _ e)
    · have e' : (if OwnA Γ σ b then none else F' b) = some u := e
      split at e'
      · cases e'
      · exact R'.g _ _ e'
    · have e' : (if OwnA Γ σ b then none else F' b) = some o := e
      split at e'
      · cases e'
      · rename_i hb
        exact R'.gr.n _ _ e' (n1 b n hb)
  refine k d Γ _ H' v (R.grow gr) gr.f (r.up fun b u e => ?_) hp
  have hb : ¬ OwnA Γ σ b := fun hb => by
    obtain ⟨_, vs, ev⟩ := o1 b hb
    exact lessL_of e vs ev
  show (if OwnA Γ σ b then none else F' b) = some u
  rw [if_neg hb]
  exact lessL_sub _ _ e
end

def fRep (tf : TF2) (tb : TE2) : TF2 := fun Γ P E => tf Γ (fun xs Γ1 => tb Γ1 (fun d Γ2 => match d with | .int k => (-(2 ^ 63) ≤ k ∧ k < 2 ^ 63 ∧ xs.length * k.toNat ≤ sizeLine) ∧ P (List.replicate k.toNat xs).flatten Γ2 | _ => False) E) E
theorem reps_rep {K : PySem.W.Frag} {F : Hp} {xs : List D} {vs : List V} (h : Reps K F xs vs) : ∀ k : Nat, Reps K F (List.replicate k xs).flatten (List.replicate k vs).flatten
  | 0 => by simp [Reps]
  | k + 1 => by
    rw [List.replicate_succ, List.replicate_succ, List.flatten_cons, List.flatten_cons]
    exact reps_app h (reps_rep h k)
section
variable {X : Cx} {F0 H0 : Hp} {a b : Expr} {pos : Pos} {tf : TF2} {tb : TE2}
theorem qf_rep (ha : QF X F0 H0 a tf) (hb : QE X F0 H0 b tb) : QF X F0 H0 (.BinOp a .Mult b pos) (fRep tf tb) := fun z E cx =>
  peC (pe_op op_rep (ha z E cx) (hb z E cx)) fun σ H Q ⟨F, Γ, P, R, h, k⟩ => ⟨F, Γ, _, R, h, fun xs Γ1 F1 H1 l vs R1 s1 e1 e2 e3 r1 ap h1 => by
    obtain ⟨s2, _⟩ := frz_gr R1.g e1 e2
    refine ⟨_, Γ1, _, R1.frzA e1 e2 e3 ap, h1, fun d Γ2 F2 H2 v R2 s3 r2 h2 => ?_⟩
    split at h2
    · rename_i n
      unfold Rep at r2
      subst r2
      have hl : F2 l = some (.lst vs) := s3 _ _ upd_same
      refine ⟨l, n, vs, rfl, rfl, R2.g _ _ hl, h2.1.1, h2.1.2.1, by rw [← reps_len r1]; exact h2.1.2.2, fun p hp => ?_⟩
      have rr := reps_rep (r1.up (s2.trans s3)) n.toNat
      obtain ⟨R3, q1, q2, q3, ap3⟩ := new_lst R2 hp rr
      exact k _ Γ2 F2 _ p _ R3 (s1.trans (s2.trans s3)) q1 q2 q3 rr ap3 h2.2
    · exact h2.elim⟩
end
end L3

namespace L3
open PySem PySem.Spec PyProof.Rows L2

def evT {α : Type} (lt : Nat → Nat → Bool) : PySem.W.KasT α → α
  | .ret a => a
  | .ask i j k => evT lt (k (lt i j))
def okT {α : Type} (lt : Nat → Nat → Bool) (n : Nat) : PySem.W.KasT α → Bool
  | .ret _ => true
  | .ask i j k => decide (i < n) && (decide (j < n) && (decide (i ≠ j) && okT lt n (k (lt i j))))
theorem wp_evT {α : Type} {cmp : Nat → Nat → (Bool → Shared → Prop) → Shared → Prop} {lt : Nat → Nat → Bool} {n : Nat} {s : Shared} (hc : ∀ i j (C : Bool → Shared → Prop), i < n → j < n → i ≠ j → C (lt i j) s → cmp i j C s) :
    ∀ (t : PySem.W.KasT α) (Q : α → Shared → Prop), okT lt n t = true → Q (evT lt t) s → t.kasWp cmp Q s
  | .ret _, _, _, h => h
  | .ask i j k, Q, ok, h => by
    unfold okT at ok
    simp only [Bool.and_eq_true, decide_eq_true_eq] at ok
    exact hc i j _ ok.1 ok.2.1 ok.2.2.1 (wp_evT hc (k (lt i j)) Q ok.2.2.2 h)

def TupI (h : Heap) (v : Value) (i : Int) : Prop := ∃ (x : Addr) (o : Obj) (xs : Array Value) (m : Nat) (t : Tok), v = .ref x ∧ h.get? x = some o ∧ o.cls = .type "tuple" ∧ o.data = .seq xs m ∧ xs[0]? = some (.int i t)
theorem TupI.up {h h' : Heap} {v : Value} {i : Int} (q : TupI h v i) (k : ∀ x o, h.get? x = some o → o.cls = .type "tuple" → h'.get? x = some o) : TupI h' v i := by
  obtain ⟨x, o, xs, m, t, e, g, c, d, f⟩ := q
  exact ⟨x, o, xs, m, t, e, k x o g c, c, d, f⟩
inductive TupsI (h : Heap) : List Value → List Int → Prop
  | nil : TupsI h [] []
  | cons {v i vs is} : TupI h v i → TupsI h vs is → TupsI h (v :: vs) (i :: is)
theorem TupsI.up {h h' : Heap} (k : ∀ x o, h.get? x = some o → o.cls = .type "tuple" → h'.get? x = some o) : ∀ {vs : List Value} {is : List Int}, TupsI h vs is → TupsI h' vs is
  | _, _, .nil => .nil
  | _, _, .cons a r => .cons (a.up k) (r.up k)
theorem TupsI.len {h : Heap} : ∀ {vs : List Value} {is : List Int}, TupsI h vs is → vs.length = is.length
  | _, _, .nil => rfl
  | _, _, .cons _ r => by simp [r.len]
theorem TupsI.get {h : Heap} : ∀ {vs : List Value} {is : List Int}, TupsI h vs is → ∀ k, k < is.length → TupI h (vs.getD k .none) (is.getD k 0)
  | _, _, .cons a _, 0, _ => a
  | _, _, .cons _ r, k + 1, hk => r.get k (by simpa using hk)
theorem TupsI.firsts {h : Heap} : ∀ {vs : List Value} {is : List Int}, TupsI h vs is → ∃ fs : List Value, PySem.W.KatTups h vs fs ∧ fs.length = is.length ∧ ∀ v ∈ fs, ∃ i t, v = .int i t
  | _, _, .nil => ⟨[], .nil, rfl, fun _ z => by cases z⟩
  | _, _, .cons ⟨x, o, xs, m, t, e, g, c, d, f⟩ r => by
    obtain ⟨fs, h1, h2, h3⟩ := r.firsts
    subst e
    refine ⟨_ :: fs, .cons g c d f h1, by simp [h2], fun v hv => ?_⟩
    rcases List.mem_cons.mp hv with rfl | hv
    · exact ⟨_, _, rfl⟩
    · exact h3 v hv
def ltI (ns : List Int) (i j : Nat) : Bool := decide (ns.getD i 0 < ns.getD j 0)
def srtIx (ns : List Int) : List Nat := if ns.length < 2 then List.range ns.length else (evT (ltI ns) (PySem.W.kas_sort ns.length)).toList
theorem nodup_getD {ns : List Int} (h : ns.Nodup) : ∀ i j, i < ns.length → j < ns.length → i ≠ j → ns.getD i 0 ≠ ns.getD j 0 := fun i j hi hj hij => by
  have key := List.pairwise_iff_getElem.mp h
  rw [List.getD_eq_getElem?_getD, List.getD_eq_getElem?_getD, List.getElem?_eq_getElem hi, List.getElem?_eq_getElem hj]
  rcases Nat.lt_or_gt_of_ne hij with q | q
  · exact key i j hi hj q
  · exact fun z => key j i hj hi q z.symm
def srtOk (ns : List Int) : Prop := ns.length < 2 ∨ (ns.length < 64 ∧ ns.Nodup ∧ okT (ltI ns) ns.length (PySem.W.kas_sort ns.length) = true)
section
variable {prog : Program} {w : World} {A : Around} {E : Value → Shared → Prop} {s : Shared}
theorem ask_tups {vs : List Value} {ns : List Int} (T : TupsI s.heap vs ns) (hd : ∀ i j, i < ns.length → j < ns.length → i ≠ j → ns.getD i 0 ≠ ns.getD j 0) (i j : Nat) (C : Bool → Shared → Prop) (hi : i < ns.length) (hj : j < ns.length) (hij : i ≠ j)
    (h : C (ltI ns i j) s) : PySem.W.kas_ask prog w A (tuples' true) vs i j C s := by
  obtain ⟨x, o, xs, m, t, e1, g1, _, d1, f1⟩ := T.get i hi
  obtain ⟨y, o', ys, m', t', e2, g2, _, d2, f2⟩ := T.get j hj
  have hne := hd i j hi hj hij
  unfold PySem.W.kas_ask
  rw [e1, e2]
  refine PySem.W.kat_lt g1 d1 g2 d2 ?_
  obtain ⟨xr, ex⟩ : ∃ xr, xs.toList = .int (ns.getD i 0) t :: xr := by
    cases q : xs.toList with
    | nil => rw [← Array.getElem?_toList, q] at f1; cases f1
    | cons a r => rw [← Array.getElem?_toList, q] at f1; cases f1; exact ⟨r, rfl⟩
  obtain ⟨yr, ey⟩ : ∃ yr, ys.toList = .int (ns.getD j 0) t' :: yr := by
    cases q : ys.toList with
    | nil => rw [← Array.getElem?_toList, q] at f2; cases f2
    | cons a r => rw [← Array.getElem?_toList, q] at f2; cases f2; exact ⟨r, rfl⟩
  rw [ex, ey]
  refine PySem.W.kat_cons (wpAny_eqBool_int ?_)
  rw [show (ns.getD i 0 == ns.getD j 0) = false by simpa using hne]
  exact PySem.W.kat_no (oneLt_int h)
theorem size_sort {vs : List Value} {p : Array Nat} (hp : p.size = vs.length) : (List.toArray (p.toList.map fun i => vs.getD i Value.none)).size = vs.length := by simp [hp]
theorem list_sort_tups {a : Addr} {vs : List Value} {ns : List Int} {n : Nat} {P : PySem.Fin → Shared → Prop} (hob : s.heap.get? a = some (seqObj "list" vs.toArray n)) (T : TupsI s.heap vs ns) (hk : srtOk ns)
    (h : P (.done (.ret .none)) { s with heap := sortedHeap s.heap a vs ((srtIx ns).map fun i => vs.getD i Value.none).toArray }) : wpAny (model prog w) A (Builtin.«list.sort» ⟨[.ref a], []⟩) P E s := by
  have hlen := T.len
  have hal : a < s.heap.objs.size := Heap.lt_size hob
  have hln : vs.length ≤ sizeLine := by
    rw [sizeLine_eq]
    rcases hk with hk | hk
    · omega
    · have := hk.1; omega
  rw [list_sort_plain]
  refine wpAny_bind (listItems_at (n := n) hob rfl ?_)
  refine wpAny_bind (listUpdate_at (n := n) hob rfl ?_ (by rw [List.size_toArray]; exact hln) (Nat.zero_le _))
  obtain ⟨ea, hoa⟩ : ∃ ea, (s.heap.update a (Obj.mapSeq fun _ => #[])).get? a = some (seqObj "list" #[] ea) := ⟨_, get?_update_seq hob (fun _ => #[])⟩
  refine wpAny_bind (seqEpoch_at (n := ea) hoa rfl ?_)
  refine wpAny_bind (wpAny_newTuple ?_ (by simpa using hln))
  refine wpAny_bind (wpAny_newList ?_ (Nat.zero_le _))
  refine wpAny_holding (m := _) ?_
  have hob2 : (((s.heap.update a (Obj.mapSeq fun _ => #[])).push (seqObj "tuple" vs.toArray 0)).push (seqObj "list" #[] 0)).get? a = some (seqObj "list" #[] ea) := by
    refine Eq.trans (Heap.get?_push_ne _ _ _ ?_) (Eq.trans (Heap.get?_push_ne _ _ _ ?_) hoa)
    · rw [size_push', Heap.size_update]; exact Nat.ne_of_lt (Nat.lt_succ_of_lt hal)
    · rw [Heap.size_update]; exact Nat.ne_of_lt hal
  have T2 : TupsI (((s.heap.update a (Obj.mapSeq fun _ => #[])).push (seqObj "tuple" vs.toArray 0)).push (seqObj "list" #[] 0)) vs ns := T.up fun x o hx hc => by
    have hlt := Heap.lt_size hx
    refine Eq.trans (Heap.get?_push_ne _ _ _ ?_) (Eq.trans (Heap.get?_push_ne _ _ _ ?_) (Eq.trans (Heap.get?_update_ne _ _ _ _ ?_) hx))
    · rw [size_push', Heap.size_update]; exact Nat.ne_of_lt (Nat.lt_succ_of_lt hlt)
    · rw [Heap.size_update]; exact Nat.ne_of_lt hlt
    · rintro rfl
      rw [hob] at hx; cases hx
      exact absurd (Value.type.inj hc) (by decide)
  show wpAny (model prog w) A _ P E ({ s with heap := ((s.heap.update a (Obj.mapSeq fun _ => #[])).push (seqObj "tuple" vs.toArray 0)).push (seqObj "list" #[] 0) } : Shared)
  dsimp only
  have hsv : vs.toArray.size = vs.length := List.size_toArray ..
  by_cases hfew : vs.toArray.size < 2
  · rw [if_pos hfew, if_pos hfew]
    refine wpAny_bind (wpAny_pure (α := _) ?_)
    rw [StateT.run_pure]
    refine wpAny_bind (wpAny_pure (α := _) ?_)
    dsimp only
    refine wpAny_bind (seqEpoch_at (n := ea) hob2 rfl ?_)
    have eo : (arrOf (SortSt.mk' general' (vs.toArray.zip vs.toArray) #[] 7 none)).map (·.2) = ((srtIx ns).map fun i => vs.getD i Value.none).toArray := by
      show (vs.toArray.zip vs.toArray).map (·.2) = _
      have e1 : srtIx ns = List.range vs.length := by unfold srtIx; rw [if_pos (by omega), hlen]
      rw [e1]
      apply Array.toList_inj.mp
      apply List.ext_getElem
      · simp
      · intro i q1 q2
        have : i < vs.length := by simpa using q2
        simp [this]
    rw [eo]
    refine wpAny_bind (listUpdate_at (n := ea) hob2 rfl ?_ (Nat.zero_le _) ?_)
    · simp only [bne_self_eq_false, Bool.false_eq_true, if_false]
      exact wpAny_pure (α := _) h
    · show ((srtIx ns).map fun i => vs.getD i Value.none).toArray.size ≤ _
      have e1 : srtIx ns = List.range vs.length := by unfold srtIx; rw [if_pos (by omega), hlen]
      rw [e1]; simp; omega
  · rw [if_neg hfew, if_neg hfew]
    obtain ⟨k1, k2', k3⟩ : ns.length < 64 ∧ ns.Nodup ∧ okT (ltI ns) ns.length (PySem.W.kas_sort ns.length) = true := hk.resolve_left (by omega)
    have k2 := nodup_getD k2'
    obtain ⟨fs, q1, q2, q3⟩ := T2.firsts
    refine wpAny_bind (PySem.W.kat_kind (T := .type "int") q1 (by omega) (fun v hv => ?_) rfl ?_)
    · obtain ⟨i, t, rfl⟩ := q3 v hv
      exact PySem.W.Looks.of_pure rfl
    show wpAny _ _ (StateT.run sortRuns' (SortSt.mk' (tuples' true) (vs.toArray.zip vs.toArray) #[] 7 none) >>= _) _ _ _
    refine wpAny_bind (wpAny_mono (PySem.W.kat_run (Q := fun st' s' => ∃ p : Array Nat, p.size = vs.length ∧ arrOf st' = p.map (PySem.W.kas_item (vs.toArray.zip vs.toArray)) ∧ failedOf st' = none ∧ p = evT (ltI ns) (PySem.W.kas_sort ns.length) ∧ s' = { s with heap := ((s.heap.update a (Obj.mapSeq fun _ => #[])).push (seqObj "tuple" vs.toArray 0)).push (seqObj "list" #[] 0) })
      (G := fun p s' => p = evT (ltI ns) (PySem.W.kas_sort ns.length) ∧ s' = { s with heap := ((s.heap.update a (Obj.mapSeq fun _ => #[])).push (seqObj "tuple" vs.toArray 0)).push (seqObj "list" #[] 0) })
      rfl (by omega) (by omega) (fun p st' s' a1 a2 a3 a4 => ⟨p, a1, a2, a3, a4⟩) ?_) ?_ fun _ _ y => y)
    · rw [hlen]
      exact wp_evT (fun i j C hi hj hij hC => ask_tups T2 k2 i j C hi hj hij hC) _ _ k3 ⟨rfl, rfl⟩
    · rintro ⟨⟨⟩, st'⟩ s' ⟨p, hp, har, hf, rfl, rfl⟩
      dsimp only
      have eo := PySem.W.kat_snds (vs := vs) rfl har
      have e1 : srtIx ns = (evT (ltI ns) (PySem.W.kas_sort ns.length)).toList := by unfold srtIx; rw [if_neg (by omega)]
      rw [← e1] at eo
      rw [eo]
      refine wpAny_bind (seqEpoch_at (n := ea) hob2 rfl ?_)
      refine wpAny_bind (listUpdate_at (n := ea) hob2 rfl ?_ (Nat.zero_le _) ?_)
      · rw [hf]
        simp only [bne_self_eq_false, Bool.false_eq_true, if_false]
        exact wpAny_pure (α := _) h
      · rw [e1]
        exact Nat.le_trans (Nat.le_of_eq (size_sort hp)) (by omega)
theorem sorted_tups {l : Addr} {vs : List Value} {ns : List Int} {Q : Value → Shared → Prop} (hl : s.heap.IsList l vs.toArray) (T : TupsI s.heap vs ns) (hk : srtOk ns)
    (h : Q (.ref (s.heap.objs.size + 1)) { s with heap := sortedAll s.heap vs ((srtIx ns).map fun i => vs.getD i Value.none).toArray }) : wpAny (model prog w) A (call (.builtin "sorted") [.ref l]) Q E s := by
  have hlen := T.len
  have hln : vs.length ≤ sizeLine := by
    rw [sizeLine_eq]
    rcases hk with hk | hk
    · omega
    · have := hk.1; omega
  refine Calls.call_function_entry kind_sorted plain_sorted entry_sorted (args_sorted1 _) (show wpAny _ _ (Builtin.«sorted» _) _ _ _ from ?_)
  unfold Builtin.«sorted»
  refine wpAny_bind (m := checkCount "sorted" 1 1 _) (wpAny_pure (α := _) ?_)
  refine wpAny_bind (collect_list (vs := vs) hl ?_ hln)
  refine wpAny_bind (wpAny_newList ?_ hln)
  have hsz : ((s.heap.push (seqObj "list" #[] 0)).update s.heap.objs.size (Obj.mapSeq (· ++ vs.toArray))).objs.size = s.heap.objs.size + 1 := (Heap.size_update ..).trans (size_push' ..)
  have hoL : (((s.heap.push (seqObj "list" #[] 0)).update s.heap.objs.size (Obj.mapSeq (· ++ vs.toArray))).push (seqObj "list" vs.toArray 0)).get? (s.heap.objs.size + 1) = some (seqObj "list" vs.toArray 0) := hsz ▸ Heap.get?_push_size _ rfl
  show wpAny _ _ _ _ _ ({ s with heap := ((s.heap.push (seqObj "list" #[] 0)).update s.heap.objs.size (Obj.mapSeq (· ++ vs.toArray))).push (seqObj "list" vs.toArray 0) } : Shared)
  rw [hsz]
  refine wpAny_bind (wpAny_holding (wpAny_call_entry slot_list_sort ⟨_, hoL, rfl⟩ entry_list_sort (list_sort_tups hoL (T.up fun x o hx hc => ?_) hk ⟨_, rfl, ?_⟩) (args_list_sort _)))
  · have hlt := Heap.lt_size hx
    refine Eq.trans (Heap.get?_push_ne _ _ _ ?_) (Eq.trans (Heap.get?_update_ne _ _ _ _ ?_) (Eq.trans (Heap.get?_push_ne _ _ _ ?_) hx))
    · rw [hsz]; exact Nat.ne_of_lt (Nat.lt_succ_of_lt hlt)
    · exact Nat.ne_of_lt hlt
    · exact Nat.ne_of_lt hlt
  · exact wpAny_pure (α := _) ⟨_, rfl, h⟩
end
def firstsD : List D → Option (List Int)
  | [] => some []
  | .tup (.int i :: _) :: r => (firstsD r).map (i :: ·)
  | _ :: _ => none
def n_sortedT : List D → (List D → Prop) → Prop := fun ds P => match ds with | [.lst xs] => ∃ ns, firstsD xs = some ns ∧ srtOk ns ∧ (∀ i ∈ srtIx ns, i < ns.length) ∧ (srtIx ns).length ≤ sizeLine ∧ P ((srtIx ns).map fun i => xs.getD i .non) | _ => False
theorem sqT_obj {X : Cx} {pins : List (Addr × Obj)} {σ : St} {H : Hp} {s : Shared} (I : Inv X pins σ H s) {a : Addr} {xs : List V} (h : SqT X.K H a xs) : ∃ its, Vals xs its ∧ s.heap.IsTuple a its.toArray := by
  obtain ⟨its, rv, p, hz⟩ := I.tuple h
  exact ⟨its, rv, p⟩
theorem tups_of {X : Cx} {pins : List (Addr × Obj)} {σ : St} {H F : Hp} {s : Shared} (I : Inv X pins σ H s) (sF : Same F H) : ∀ {xs : List D} {vs : List V} {its : List Value} {ns : List Int}, Reps X.K F xs vs → Vals vs its → firstsD xs = some ns → TupsI s.heap its ns
  | [], _, its, ns, rs, rv, h => by
    unfold Reps at rs; subst rs
    cases rv
    unfold firstsD at h; cases h
    exact .nil
  | d :: xs, vs, its, ns, rs, rv, h => by
    unfold Reps at rs
    obtain ⟨v, r, rfl, r1, r2⟩ := rs
    cases rv with
    | cons rv0 rvr =>
      unfold firstsD at h
      split at h
      · rename_i heq
        cases heq
      · rename_i i ds xs' heq
        cases heq
        cases q : firstsD xs with
        | none => rw [q] at h; cases h
        | some ms =>
          rw [q] at h; cases h
          refine .cons ?_ (tups_of I sF r2 rvr q)
          unfold Rep at r1
          obtain ⟨a, us, rfl, hq, ru⟩ := r1
          cases rv0
          obtain ⟨js, rj, o, ho, hc, n, hd⟩ := sqT_obj I (sqT_mono sF hq)
          unfold Reps at ru
          obtain ⟨u, ur, rfl, r3, _⟩ := ru
          unfold Rep at r3
          subst r3
          cases rj with
          | cons rj0 rjr =>
            obtain ⟨t, rfl⟩ := rj0
            exact ⟨a, o, _, n, t, rfl, ho, hc, hd, by simp⟩
      · cases h
theorem vals_getD {xs : List V} {us : List Value} (h : Vals xs us) : ∀ {is : List Nat}, (∀ i ∈ is, i < xs.length) → Vals (is.map fun i => xs.getD i .non) (is.map fun i => us.getD i Value.none)
  | [], _ => .nil
  | i :: is, k => by
    have hi := k i List.mem_cons_self
    obtain ⟨u, hu, ru⟩ := h.get (List.getElem?_eq_getElem hi)
    refine .cons ?_ (vals_getD h fun j hj => k j (List.mem_cons_of_mem _ hj))
    show RelV (xs.getD i .non) (us.getD i Value.none)
    rw [List.getD_eq_getElem?_getD, List.getD_eq_getElem?_getD, List.getElem?_eq_getElem hi, hu]
    exact ru
theorem reps_getD {K : PySem.W.Frag} {F : Hp} {ds : List D} {vs : List V} (h : Reps K F ds vs) : ∀ {is : List Nat}, (∀ i ∈ is, i < ds.length) → Reps K F (is.map fun i => ds.getD i .non) (is.map fun i => vs.getD i .non)
  | [], _ => by simp [Reps]
  | i :: is, k => by
    have hi := k i List.mem_cons_self
    obtain ⟨v, hv, rv⟩ := reps_get h (List.getElem?_eq_getElem hi)
    refine reps_cons ?_ (reps_getD h fun j hj => k j (List.mem_cons_of_mem _ hj))
    show Rep K F (ds.getD i .non) (vs.getD i .non)
    rw [List.getD_eq_getElem?_getD, List.getD_eq_getElem?_getD, List.getElem?_eq_getElem hi, hv]
    exact rv
theorem firsts_len : ∀ {xs : List D} {ns : List Int}, firstsD xs = some ns → xs.length = ns.length
  | [], _, h => by unfold firstsD at h; cases h; rfl
  | d :: xs, ns, h => by
    unfold firstsD at h
    split at h
    · rename_i heq; cases heq
    · rename_i i ds xs' heq
      cases heq
      cases q : firstsD xs with
      | none => rw [q] at h; cases h
      | some ms => rw [q] at h; cases h; simp [firsts_len q]
    · cases h
theorem q_sortedT {X : Cx} : CallR X (.builtin "sorted") (rUpN X.K n_sortedT) := by
  intro pins s σ H xs us Q I r ⟨F, ds, P, sF, rs, h, k⟩
  unfold n_sortedT at h
  split at h
  · unfold Reps Reps Rep at rs
    obtain ⟨v, _, rfl, ⟨p, vs, rfl, hq, rs⟩, rfl⟩ := rs
    obtain ⟨ns, hns, hok, hix, hsz, h⟩ := h
    obtain ⟨u, rfl, rx⟩ := vals1 r
    cases rx
    obtain ⟨its, rv, pl, hz⟩ := I.list (sF.seq hq)
    have hl := rv.length
    have hl2 := reps_len rs
    have hl3 := firsts_len hns
    refine sorted_tups pl.isList (tups_of I sF rs rv hns) hok ?_
    obtain ⟨e, he⟩ := sortedAll_at s.heap its ((srtIx ns).map fun i => its.getD i Value.none).toArray
    have I2 : Inv X pins σ (upd H (s.heap.objs.size + 1) (.lst ((srtIx ns).map fun i => vs.getD i .non))) { s with heap := sortedAll s.heap its ((srtIx ns).map fun i => its.getD i Value.none).toArray, toks := s.toks } :=
      I.laid (t' := s.toks) (fun b o z => sortedAll_old z) (Nat.le_succ _) (show ObjOk X.prog X.w _ _ _ (.lst ((srtIx ns).map fun i => vs.getD i .non)) from ⟨by rw [List.length_map]; exact hsz, _, e, vals_getD rv fun i hi => by have := hix i hi; omega, he⟩)
    exact ⟨.ref (s.heap.objs.size + 1), _, I2, rfl, k _ _ _ (reps_getD rs fun i hi => by have := hix i hi; omega) (I.hok.fresh (Nat.le_succ _)) h⟩
  · exact h.elim
end L3

namespace HM
theorem gcd_fmod (a b : Int) : Int.gcd b (a.fmod b) = Int.gcd a b := by
  rw [Int.fmod_def, Int.gcd_sub_mul_left_right, Int.gcd_comm]

theorem fmod_natAbs_lt {a b : Int} (h : b ≠ 0) : (a.fmod b).natAbs < b.natAbs := by
  rw [Int.fmod_eq_emod]
  have h1 := Int.emod_nonneg a h
  have h2 := Int.emod_lt a h
  split
  · omega
  · rename_i q
    have q1 : b < 0 := by omega
    have q2 : a % b ≠ 0 := fun z => q (.inr (Int.dvd_of_emod_eq_zero z))
    omega

/-- the sign's divisor -/
def dv (t b : Int) : Int := if b < 0 then -(Int.gcd t b : Int) else Int.gcd t b
def fr (t b : Int) : Int × Int := (t.fdiv (dv t b), b.fdiv (dv t b))

theorem dv_ne {t b : Int} (h : b ≠ 0) : dv t b ≠ 0 := by
  unfold dv
  have : Int.gcd t b ≠ 0 := by
    intro e
    exact h (Int.gcd_eq_zero_iff.mp e).2
  split <;> omega
theorem dv_dvd1 (t b : Int) : dv t b ∣ t := by
  unfold dv
  split
  · exact Int.neg_dvd.mpr (Int.gcd_dvd_left ..)
  · exact Int.gcd_dvd_left ..
theorem dv_dvd2 (t b : Int) : dv t b ∣ b := by
  unfold dv
  split
  · exact Int.neg_dvd.mpr (Int.gcd_dvd_right ..)
  · exact Int.gcd_dvd_right ..
theorem fdiv_mul_of_dvd {a b : Int} (h : b ∣ a) : b * a.fdiv b = a := by
  rw [Int.fdiv_eq_ediv_of_dvd h]
  exact Int.mul_ediv_cancel' h

theorem fr_top (t b : Int) : dv t b * (fr t b).1 = t := fdiv_mul_of_dvd (dv_dvd1 t b)
theorem fr_bot (t b : Int) : dv t b * (fr t b).2 = b := fdiv_mul_of_dvd (dv_dvd2 t b)
theorem fr_pos {t b : Int} (h : b ≠ 0) : 0 < (fr t b).2 := by
  have e := fr_bot t b
  have n := dv_ne (t := t) h
  generalize (fr t b).2 = y at *
  unfold dv at e n
  split at e
  · rename_i hb
    have g0 : (0 : Int) < Int.gcd t b := by
      rw [if_pos hb] at n
      have : (0 : Int) ≤ Int.gcd t b := Int.natCast_nonneg _
      omega
    rcases Int.lt_or_le 0 y with h | h
    · exact h
    · have : 0 ≤ -(Int.gcd t b : Int) * y := by
        rw [Int.neg_mul, ← Int.mul_neg]
        exact Int.mul_nonneg (by omega) (by omega)
      omega
  · rename_i hb
    have g0 : (0 : Int) < Int.gcd t b := by
      rw [if_neg hb] at n
      have : (0 : Int) ≤ Int.gcd t b := Int.natCast_nonneg _
      omega
    rcases Int.lt_or_le 0 y with h | h
    · exact h
    · have : (Int.gcd t b : Int) * y ≤ 0 := Int.mul_nonpos_of_nonneg_of_nonpos (by omega) h
      omega
theorem fr_gcd {t b : Int} (h : b ≠ 0) : Int.gcd (fr t b).1 (fr t b).2 = 1 := by
  have e1 := fr_top t b
  have e2 := fr_bot t b
  have n := dv_ne (t := t) h
  have e3 : Int.gcd (dv t b * (fr t b).1) (dv t b * (fr t b).2) = (dv t b).natAbs * Int.gcd (fr t b).1 (fr t b).2 := Int.gcd_mul_left ..
  rw [e1, e2] at e3
  have e4 : (dv t b).natAbs = Int.gcd t b := by
    unfold dv
    split <;> simp
  rw [e4] at e3
  have g0 : Int.gcd t b ≠ 0 := fun z => h (Int.gcd_eq_zero_iff.mp z).2
  exact (Nat.eq_of_mul_eq_mul_left (Nat.pos_of_ne_zero g0) (by rw [Nat.mul_one]; exact e3)).symm
/-- cross products -/
theorem fr_cross {t b : Int} : (fr t b).1 * b = t * (fr t b).2 := by
  have e1 := fr_top t b
  have e2 := fr_bot t b
  calc (fr t b).1 * b = (fr t b).1 * (dv t b * (fr t b).2) := by rw [e2]
    _ = (dv t b * (fr t b).1) * (fr t b).2 := by rw [← Int.mul_assoc, Int.mul_comm (fr t b).1]
    _ = t * (fr t b).2 := by rw [e1]
/-- lowest terms are one -/
theorem low_unique {a b c d : Int} (hb : 0 < b) (hd : 0 < d) (h1 : Int.gcd a b = 1) (h2 : Int.gcd c d = 1) (h : a * d = c * b) : a = c ∧ b = d := by
  have bd : b ∣ d := by
    have : b ∣ a * d := ⟨c, by rw [h, Int.mul_comm]⟩
    have z := Int.dvd_gcd_mul_iff_dvd_mul.mpr this
    rw [Int.gcd_comm, h1] at z
    simpa using z
  have db : d ∣ b := by
    have : d ∣ c * b := ⟨a, by rw [← h, Int.mul_comm]⟩
    have z := Int.dvd_gcd_mul_iff_dvd_mul.mpr this
    rw [Int.gcd_comm, h2] at z
    simpa using z
  have e : b = d := Int.dvd_antisymm (Int.le_of_lt hb) (Int.le_of_lt hd) bd db
  subst e
  exact ⟨Int.eq_of_mul_eq_mul_right (Int.ne_of_gt hb) h, rfl⟩
theorem fr_eq {t b t' b' : Int} (h : b ≠ 0) (h' : b' ≠ 0) (e : t * b' = t' * b) : fr t b = fr t' b' := by
  have c1 := fr_cross (t := t) (b := b)
  have c2 := fr_cross (t := t') (b := b')
  have p1 := fr_pos (t := t) h
  have p2 := fr_pos (t := t') h'
  have k : (fr t b).1 * (fr t' b').2 = (fr t' b').1 * (fr t b).2 := by
    generalize (fr t b).1 = x at *
    generalize (fr t b).2 = y at *
    generalize (fr t' b').1 = x' at *
    generalize (fr t' b').2 = y' at *
    -- x b = t y; x' b' = t' y'; t b' = t' b
    have : (x * y') * (b * b') = (x' * y) * (b * b') := by
      calc (x * y') * (b * b') = (x * b) * (b' * y') := by ac_rfl
        _ = (t * y) * (b' * y') := by rw [c1]
        _ = (t * b') * (y * y') := by ac_rfl
        _ = (t' * b) * (y * y') := by rw [e]
        _ = (t' * y') * (b * y) := by ac_rfl
        _ = (x' * b') * (b * y) := by rw [c2]
        _ = (x' * y) * (b * b') := by ac_rfl
    exact Int.eq_of_mul_eq_mul_right (Int.mul_ne_zero h h') this
  obtain ⟨e1, e2⟩ := low_unique p1 p2 (fr_gcd h) (fr_gcd h') k
  exact Prod.ext e1 e2
/-- what is in lowest terms stays -/
theorem fr_low {a b : Int} (hb : 0 < b) (h : Int.gcd a b = 1) : fr a b = (a, b) := by
  have c1 := fr_cross (t := a) (b := b)
  obtain ⟨e1, e2⟩ := low_unique (fr_pos (t := a) (Int.ne_of_gt hb)) hb (fr_gcd (Int.ne_of_gt hb)) h (by rw [c1])
  exact Prod.ext e1 e2
theorem fr_le1 {t b : Int} (h : b ≠ 0) : (fr t b).1.natAbs ≤ t.natAbs := by
  have e := congrArg Int.natAbs (fr_top t b)
  rw [Int.natAbs_mul] at e
  have n := dv_ne (t := t) h
  have : 1 ≤ (dv t b).natAbs := by omega
  calc (fr t b).1.natAbs = 1 * (fr t b).1.natAbs := by rw [Nat.one_mul]
    _ ≤ (dv t b).natAbs * (fr t b).1.natAbs := Nat.mul_le_mul_right _ this
    _ = t.natAbs := e
theorem fr_le2 {t b : Int} (h : b ≠ 0) : (fr t b).2.natAbs ≤ b.natAbs := by
  have e := congrArg Int.natAbs (fr_bot t b)
  rw [Int.natAbs_mul] at e
  have n := dv_ne (t := t) h
  have : 1 ≤ (dv t b).natAbs := by omega
  calc (fr t b).2.natAbs = 1 * (fr t b).2.natAbs := by rw [Nat.one_mul]
    _ ≤ (dv t b).natAbs * (fr t b).2.natAbs := Nat.mul_le_mul_right _ this
    _ = b.natAbs := e
theorem fr_zero {b : Int} (h : b ≠ 0) : fr 0 b = (0, 1) := by
  have : fr 0 b = fr 0 1 := fr_eq h (by decide) (by simp)
  rw [this, fr_low (by decide) (by decide)]
end HM

namespace L3
open PySem L2 HM
/-! ## fractions as rationals -/
def qD (q : Rat) : D := .tup [.int q.num, .int q.den]
theorem qD_inj {a b : Rat} (h : qD a = qD b) : a = b := by
  unfold qD at h
  simp only [D.tup.injEq, List.cons.injEq, D.int.injEq, and_true, Int.natCast_inj] at h
  exact Rat.ext h.1 h.2
theorem rat_div {t b : Int} (h : b ≠ 0) : fr t b = ((Rat.divInt t b).num, ((Rat.divInt t b).den : Int)) := by
  have hb : (0 : Int) < (Rat.divInt t b).den := by have := (Rat.divInt t b).den_pos; omega
  have hg : Int.gcd (Rat.divInt t b).num (Rat.divInt t b).den = 1 := by
    have := (Rat.divInt t b).reduced
    unfold Nat.Coprime at this
    simpa [Int.gcd] using this
  have e : (Rat.divInt t b).num * b = t * (Rat.divInt t b).den := by
    have q := Rat.num_divInt_den (Rat.divInt t b)
    rw [Rat.divInt_eq_divInt_iff (by omega) h] at q
    exact q
  have := fr_eq (t := t) (b := b) (t' := (Rat.divInt t b).num) (b' := (Rat.divInt t b).den) h (by omega) e.symm
  rw [this, fr_low hb hg]
theorem fr_rat {t b : Int} (h : b ≠ 0) : fr t b = (((t : Rat) / (b : Rat)).num, (((t : Rat) / (b : Rat)).den : Int)) := by
  rw [rat_div h, Rat.divInt_eq_div]
theorem den_ne (q : Rat) : ((q.den : Int) : Rat) ≠ 0 := by
  have := q.den_pos
  intro e
  have : (q.den : Int) = 0 := by exact_mod_cast e
  omega
theorem num_den (q : Rat) : (q.num : Rat) / ((q.den : Int) : Rat) = q := by
  have := Rat.num_divInt_den q
  rw [Rat.divInt_eq_div] at this
  exact this
/-- sizes -/
def Sz (n : Nat) (q : Rat) : Prop := bln q.num ≤ n ∧ bln (q.den : Int) ≤ n
theorem Sz.up {m n : Nat} {q : Rat} (h : Sz m q) (k : m ≤ n) : Sz n q := ⟨Nat.le_trans h.1 k, Nat.le_trans h.2 k⟩
theorem sz_div {t b : Int} {n : Nat} (h : b ≠ 0) (h1 : bln t ≤ n) (h2 : bln b ≤ n) : Sz n ((t : Rat) / (b : Rat)) := by
  have e := fr_rat (t := t) h
  have e1 : (fr t b).1 = _ := congrArg Prod.fst e
  have e2 : (fr t b).2 = _ := congrArg Prod.snd e
  dsimp only at e1 e2
  refine ⟨Nat.le_trans (bln_mono ?_) h1, Nat.le_trans (bln_mono ?_) h2⟩
  · rw [← e1]; exact fr_le1 h
  · rw [← e2]; exact fr_le2 h
theorem add_eq (a b : Rat) : a + b = ((a.num * b.den + b.num * a.den : Int) : Rat) / ((a.den * b.den : Int) : Rat) := by
  have ha := den_ne a
  have hb := den_ne b
  have h1 := num_den a
  have h2 := num_den b
  rw [Rat.intCast_add, Rat.intCast_mul, Rat.intCast_mul, Rat.intCast_mul]
  generalize (a.num : Rat) = x at *
  generalize (b.num : Rat) = y at *
  generalize ((a.den : Int) : Rat) = u at *
  generalize ((b.den : Int) : Rat) = v at *
  subst h1 h2
  grind
theorem sub_eq (a b : Rat) : a - b = ((a.num * b.den - b.num * a.den : Int) : Rat) / ((a.den * b.den : Int) : Rat) := by
  have ha := den_ne a
  have hb := den_ne b
  have h1 := num_den a
  have h2 := num_den b
  rw [Rat.intCast_sub, Rat.intCast_mul, Rat.intCast_mul, Rat.intCast_mul]
  generalize (a.num : Rat) = x at *
  generalize (b.num : Rat) = y at *
  generalize ((a.den : Int) : Rat) = u at *
  generalize ((b.den : Int) : Rat) = v at *
  subst h1 h2
  grind
theorem mul_eq (a b : Rat) : a * b = ((a.num * b.num : Int) : Rat) / ((a.den * b.den : Int) : Rat) := by
  have ha := den_ne a
  have hb := den_ne b
  have h1 := num_den a
  have h2 := num_den b
  rw [Rat.intCast_mul, Rat.intCast_mul]
  generalize (a.num : Rat) = x at *
  generalize (b.num : Rat) = y at *
  generalize ((a.den : Int) : Rat) = u at *
  generalize ((b.den : Int) : Rat) = v at *
  subst h1 h2
  grind
theorem num_zero {b : Rat} : b.num = 0 ↔ b = 0 := Rat.num_eq_zero
theorem div_eq (a b : Rat) (h : b ≠ 0) : a / b = ((a.num * b.den : Int) : Rat) / ((a.den * b.num : Int) : Rat) := by
  have ha := den_ne a
  have hb := den_ne b
  have h1 := num_den a
  have h2 := num_den b
  rw [Rat.intCast_mul, Rat.intCast_mul]
  generalize (a.num : Rat) = x at *
  generalize (b.num : Rat) = y at *
  generalize ((a.den : Int) : Rat) = u at *
  generalize ((b.den : Int) : Rat) = v at *
  subst h1 h2
  grind
theorem lt_eq (a b : Rat) : decide (a < b) = decide (a.num * b.den < b.num * a.den) := by
  rw [decide_eq_decide]
  exact Rat.lt_iff a b
theorem den_mul_ne (a b : Rat) : (a.den * b.den : Int) ≠ 0 := Int.mul_ne_zero (by have := a.den_pos; omega) (by have := b.den_pos; omega)
theorem qD_fr {t b : Int} (h : b ≠ 0) : D.tup [.int (fr t b).1, .int (fr t b).2] = qD ((t : Rat) / (b : Rat)) := by rw [fr_rat h]; rfl
theorem sz_add {m n : Nat} {a b : Rat} (ha : Sz m a) (hb : Sz n b) : Sz (m + n + 1) (a + b) := by
  rw [add_eq]
  refine sz_div (den_mul_ne a b) ?_ ?_
  · have h1 := bln_mul_le a.num b.den
    have h2 := bln_mul_le b.num a.den
    have h3 := bln_add_le (a.num * b.den) (b.num * a.den)
    have := ha.1; have := ha.2; have := hb.1; have := hb.2
    omega
  · have h1 := bln_mul_le a.den b.den
    have := ha.2; have := hb.2
    omega
theorem sz_sub {m n : Nat} {a b : Rat} (ha : Sz m a) (hb : Sz n b) : Sz (m + n + 1) (a - b) := by
  rw [sub_eq]
  refine sz_div (den_mul_ne a b) ?_ ?_
  · have h1 := bln_mul_le a.num b.den
    have h2 := bln_mul_le b.num a.den
    have h3 := bln_sub_le (a.num * b.den) (b.num * a.den)
    have := ha.1; have := ha.2; have := hb.1; have := hb.2
    omega
  · have h1 := bln_mul_le a.den b.den
    have := ha.2; have := hb.2
    omega
theorem sz_mul {m n : Nat} {a b : Rat} (ha : Sz m a) (hb : Sz n b) : Sz (m + n) (a * b) := by
  rw [mul_eq]
  refine sz_div (den_mul_ne a b) ?_ ?_
  · have h1 := bln_mul_le a.num b.num
    have := ha.1; have := hb.1
    omega
  · have h1 := bln_mul_le a.den b.den
    have := ha.2; have := hb.2
    omega
theorem sz_quo {m n : Nat} {a b : Rat} (ha : Sz m a) (hb : Sz n b) (h0 : b ≠ 0) : Sz (m + n) (a / b) := by
  rw [div_eq a b h0]
  have hn : (a.den * b.num : Int) ≠ 0 := Int.mul_ne_zero (by have := a.den_pos; omega) (fun z => h0 (num_zero.mp z))
  refine sz_div hn ?_ ?_
  · have h1 := bln_mul_le a.num b.den
    have := ha.1; have := hb.2
    omega
  · have h1 := bln_mul_le a.den b.num
    have := ha.2; have := hb.1
    omega
theorem qD_zero : qD 0 = .tup [.int 0, .int 1] := rfl
theorem qD_int (i : Int) : qD (i : Rat) = .tup [.int i, .int 1] := rfl
theorem sz_int {i : Int} {n : Nat} (h : bln i ≤ n) (hn : 1 ≤ n) : Sz n (i : Rat) := ⟨h, Nat.le_trans (bln_le (k := 1) (show (1 : Nat) < 2 ^ 1 by decide)) hn⟩
end L3

namespace L3
open PySem L2 HM
/-! ## sorting fractions -/
def sumQ : List Rat → Rat | [] => 0 | q :: qs => q + sumQ qs
theorem sumQ_append (a b : List Rat) : sumQ (a ++ b) = sumQ a + sumQ b := by
  induction a with
  | nil => simp [sumQ, Rat.zero_add]
  | cons x xs ih => simp only [List.cons_append, sumQ, ih, Rat.add_assoc]
theorem sumQ_perm {a b : List Rat} (h : a.Perm b) : sumQ a = sumQ b := by
  induction h with
  | nil => rfl
  | cons x _ ih => simp only [sumQ, ih]
  | swap x y l => simp only [sumQ]; rw [← Rat.add_assoc, ← Rat.add_assoc, Rat.add_comm y x]
  | trans _ _ i1 i2 => exact i1.trans i2
theorem sumQ_reverse (a : List Rat) : sumQ a.reverse = sumQ a := sumQ_perm (List.reverse_perm a)
theorem sz_sum {m : Nat} : ∀ {qs : List Rat}, (∀ q ∈ qs, Sz m q) → Sz (qs.length * (m + 2) + 1) (sumQ qs)
  | [], _ => ⟨by show bln 0 ≤ _; exact Nat.le_trans (bln_le (k := 1) (by decide)) (by omega), by show bln 1 ≤ _; exact Nat.le_trans (bln_le (k := 1) (by decide)) (by omega)⟩
  | q :: qs, h => by
    have i := sz_sum (qs := qs) fun p hp => h p (List.mem_cons_of_mem _ hp)
    refine (sz_add (h q List.mem_cons_self) i).up ?_
    have : (qs.length + 1) * (m + 2) = qs.length * (m + 2) + (m + 2) := by rw [Nat.add_mul, Nat.one_mul]
    simp only [List.length_cons]
    omega
abbrev Srt (l : List Rat) : Prop := l.Pairwise (· ≤ ·)
def cnt (q : Rat) (l : List Rat) : Nat := (l.filter fun o => !decide (q < o)).length
def insQ (l : List Rat) (q : Rat) : List Rat := l.take (cnt q l) ++ q :: l.drop (cnt q l)
def srt (qs : List Rat) : List Rat := qs.foldl insQ []
theorem cnt_le (q : Rat) (l : List Rat) : cnt q l ≤ l.length := List.length_filter_le _ _
theorem cnt_of {q : Rat} : ∀ {l : List Rat} {k : Nat}, Srt l → k ≤ l.length → (∀ j (h : j < l.length), j < k → ¬ q < l[j]) → (∀ h : k < l.length, q < l[k]) → cnt q l = k
  | [], k, _, hk, _, _ => by simp at hk; subst hk; rfl
  | x :: l, 0, hs, _, _, h2 => by
    have h := h2 (by simp)
    have all : ∀ o ∈ x :: l, q < o := by
      intro o ho
      rcases List.mem_cons.mp ho with rfl | ho
      · exact h
      · exact Std.lt_of_lt_of_le h ((List.pairwise_cons.mp hs).1 o ho)
    unfold cnt
    rw [List.filter_eq_nil_iff.mpr]
    · rfl
    · intro o ho
      simp [all o ho]
  | x :: l, k + 1, hs, hk, h1, h2 => by
    have hx := h1 0 (by simp) (by omega)
    have ih := cnt_of (q := q) (l := l) (k := k) (List.pairwise_cons.mp hs).2 (by simpa using hk) (fun j hj hjk => by have := h1 (j + 1) (by simpa using hj) (by omega); simpa using this) (fun h => by have := h2 (by simpa using h); simpa using this)
    unfold cnt at ih ⊢
    rw [List.filter_cons, if_pos (by simpa using hx), List.length_cons, ih]
theorem cnt_spec {q : Rat} : ∀ {l : List Rat}, Srt l → (∀ o ∈ l.take (cnt q l), o ≤ q) ∧ ∀ o ∈ l.drop (cnt q l), q < o
  | [], _ => ⟨by simp, by simp⟩
  | x :: l, hs => by
    obtain ⟨p1, p2⟩ := List.pairwise_cons.mp hs
    obtain ⟨i1, i2⟩ := cnt_spec (q := q) (l := l) p2
    by_cases hx : q < x
    · have all : ∀ o ∈ x :: l, q < o := by
        intro o ho
        rcases List.mem_cons.mp ho with rfl | ho
        · exact hx
        · exact Std.lt_of_lt_of_le hx (p1 o ho)
      have e : cnt q (x :: l) = 0 := by
        unfold cnt
        rw [List.filter_eq_nil_iff.mpr]
        · rfl
        · intro o ho
          simp [all o ho]
      rw [e]
      exact ⟨by simp, by simpa using all⟩
    · have e : cnt q (x :: l) = cnt q l + 1 := by
        unfold cnt
        rw [List.filter_cons, if_pos (by simpa using hx), List.length_cons]
      rw [e, List.take_succ_cons, List.drop_succ_cons]
      refine ⟨fun o ho => ?_, i2⟩
      rcases List.mem_cons.mp ho with rfl | ho
      · exact Rat.not_lt.mp hx
      · exact i1 o ho
theorem insQ_srt {l : List Rat} {q : Rat} (h : Srt l) : Srt (insQ l q) := by
  obtain ⟨h1, h2⟩ := cnt_spec (q := q) h
  unfold insQ Srt
  rw [List.pairwise_append]
  refine ⟨h.sublist (List.take_sublist _ _), List.pairwise_cons.mpr ⟨fun o ho => Rat.le_of_lt (h2 o ho), h.sublist (List.drop_sublist _ _)⟩, fun a ha b hb => ?_⟩
  rcases List.mem_cons.mp hb with rfl | hb
  · exact h1 a ha
  · exact Rat.le_trans (h1 a ha) (Rat.le_of_lt (h2 b hb))
theorem insQ_perm (l : List Rat) (q : Rat) : (insQ l q).Perm (q :: l) := by
  unfold insQ
  refine List.perm_middle.trans ?_
  rw [List.take_append_drop]
theorem srt_aux : ∀ (qs acc : List Rat), Srt acc → Srt (qs.foldl insQ acc) ∧ (qs.foldl insQ acc).Perm (qs ++ acc)
  | [], acc, h => ⟨h, .refl _⟩
  | q :: qs, acc, h => by
    obtain ⟨h1, h2⟩ := srt_aux qs (insQ acc q) (insQ_srt h)
    refine ⟨h1, h2.trans ?_⟩
    refine (List.Perm.append_left qs (insQ_perm acc q)).trans ?_
    exact List.perm_middle
theorem srt_srt (qs : List Rat) : Srt (srt qs) := (srt_aux qs [] List.Pairwise.nil).1
theorem srt_perm (qs : List Rat) : (srt qs).Perm qs := by have := (srt_aux qs [] List.Pairwise.nil).2; rwa [List.append_nil] at this
theorem srt_len (qs : List Rat) : (srt qs).length = qs.length := (srt_perm qs).length_eq
theorem srt_unique : ∀ {a b : List Rat}, Srt a → Srt b → a.Perm b → a = b
  | [], b, _, _, h => (List.nil_perm.mp h).symm
  | x :: a, [], _, _, h => by simpa using h.length_eq
  | x :: a, y :: b, ha, hb, h => by
    obtain ⟨a1, a2⟩ := List.pairwise_cons.mp ha
    obtain ⟨b1, b2⟩ := List.pairwise_cons.mp hb
    have e : x = y := by
      have hx : x ∈ y :: b := h.mem_iff.mp List.mem_cons_self
      have hy : y ∈ x :: a := h.mem_iff.mpr List.mem_cons_self
      rcases List.mem_cons.mp hx with e | hx
      · exact e
      · rcases List.mem_cons.mp hy with e | hy
        · exact e.symm
        · exact Rat.le_antisymm (a1 y hy) (b1 x hx)
    subst e
    rw [srt_unique a2 b2 (List.Perm.cons_inv h)]
theorem srt_eq {a b : List Rat} (h : a.Perm b) : srt a = srt b := srt_unique (srt_srt a) (srt_srt b) ((srt_perm a).trans (h.trans (srt_perm b).symm))
/-- the middle of sorted ones -/
def midQ (l : List Rat) : Rat := if l.length % 2 = 1 then l.getD (l.length / 2) 0 else (l.getD (l.length / 2 - 1) 0 + l.getD (l.length / 2) 0) / 2
/-- the two nearest neighbours, the highest of several -/
def wd (l : List Rat) (j : Nat) : Rat := l.getD (j + 1) 0 - l.getD j 0
structure Best (l : List Rat) (b : Nat) : Prop where
  lt : b + 1 < l.length
  le : ∀ j, j + 1 < l.length → wd l b ≤ wd l j
  gt : ∀ j, j + 1 < l.length → b < j → wd l b < wd l j
theorem Best.unique {l : List Rat} {a b : Nat} (x : Best l a) (y : Best l b) : a = b := by
  rcases Nat.lt_trichotomy a b with h | h | h
  · exact absurd (x.gt b y.lt h) (Rat.not_lt.mpr (y.le a x.lt))
  · exact h
  · exact absurd (y.gt a x.lt h) (Rat.not_lt.mpr (x.le b y.lt))
end L3

namespace L3
open PySem L2 HM
/-! ## scales -/
abbrev Pt := Rat × Rat
def pD (p : Pt) : D := .tup [qD p.1, qD p.2]
def betw (l r : Pt) (x : Rat) : Rat := l.2 + (x - l.1) * (r.2 - l.2) / (r.1 - l.1)
def clb (a b : Pt) : Bool := decide (a.1 < b.1) && !decide (b.2 < a.2)
def Gd : List Pt → Prop
  | [] => True
  | [_] => True
  | a :: b :: t => (a.1 < b.1 ∧ a.2 ≤ b.2) ∧ Gd (b :: t)
def scl : List Pt → Rat → Rat
  | [], _ => 0
  | [p], _ => p.2
  | l :: r :: t, x => if x < r.1 then (if l.1 < x then betw l r x else l.2) else scl (r :: t) x
def sclW : List Pt → Rat → Rat
  | [], _ => 0
  | [p], _ => p.2
  | l :: r :: t, x => if x < r.1 then betw l r x else sclW (r :: t) x
theorem betw_k {l r : Pt} (h : l.1 < r.1) (h2 : l.2 ≤ r.2) : ∃ k : Rat, 0 ≤ k ∧ (l.2 < r.2 → 0 < k) ∧ k * (r.1 - l.1) = r.2 - l.2 ∧ ∀ x, betw l r x = l.2 + (x - l.1) * k := by
  have hd : 0 < r.1 - l.1 := by grind
  have hi : 0 < (r.1 - l.1)⁻¹ := Rat.inv_pos.mpr hd
  have hn : r.1 - l.1 ≠ 0 := by grind
  refine ⟨(r.2 - l.2) * (r.1 - l.1)⁻¹, Rat.mul_nonneg (by grind) (Rat.le_of_lt hi), fun h => Rat.mul_pos (by grind) hi, ?_, fun x => ?_⟩
  · rw [Rat.mul_assoc, Rat.inv_mul_cancel _ hn, Rat.mul_one]
  · unfold betw
    rw [Rat.div_def, Rat.mul_assoc]
theorem betw_at {l r : Pt} (h : l.1 < r.1) (h2 : l.2 ≤ r.2) : betw l r l.1 = l.2 := by
  obtain ⟨k, _, _, _, e⟩ := betw_k h h2
  rw [e]; grind
theorem betw_ge {l r : Pt} (h : l.1 < r.1) (h2 : l.2 ≤ r.2) {x : Rat} (hx : l.1 ≤ x) : l.2 ≤ betw l r x := by
  obtain ⟨k, k0, _, _, e⟩ := betw_k h h2
  have : 0 ≤ (x - l.1) * k := Rat.mul_nonneg (by grind) k0
  rw [e]; grind
theorem betw_le {l r : Pt} (h : l.1 < r.1) (h2 : l.2 ≤ r.2) {x : Rat} (hx : x ≤ r.1) : betw l r x ≤ r.2 := by
  obtain ⟨k, k0, _, ek, e⟩ := betw_k h h2
  have : 0 ≤ (r.1 - x) * k := Rat.mul_nonneg (by grind) k0
  rw [e]; grind
theorem betw_mono {l r : Pt} (h : l.1 < r.1) (h2 : l.2 ≤ r.2) {x y : Rat} (hx : x ≤ y) : betw l r x ≤ betw l r y := by
  obtain ⟨k, k0, _, ek, e⟩ := betw_k h h2
  have : 0 ≤ (y - x) * k := Rat.mul_nonneg (by grind) k0
  rw [e, e]; grind
theorem betw_lt {l r : Pt} (h : l.1 < r.1) (h2 : l.2 < r.2) {x y : Rat} (hx : x < y) : betw l r x < betw l r y := by
  obtain ⟨k, _, k0, ek, e⟩ := betw_k h (Rat.le_of_lt h2)
  have : 0 < (y - x) * k := Rat.mul_pos (by grind) (k0 h2)
  rw [e, e]; grind
theorem betw_end {l r : Pt} (h : l.1 < r.1) (h2 : l.2 ≤ r.2) : betw l r r.1 = r.2 := by
  obtain ⟨k, _, _, ek, e⟩ := betw_k h h2
  rw [e]; grind
theorem sclW_scl : ∀ {ps : List Pt} {x : Rat}, Gd ps → (∀ p, ps.head? = some p → p.1 ≤ x) → sclW ps x = scl ps x
  | [], _, _, _ => rfl
  | [p], _, _, _ => rfl
  | l :: r :: t, x, hg, hx => by
    have hl := hx l rfl
    obtain ⟨⟨h1, h2⟩, h3⟩ := hg
    unfold sclW scl
    by_cases h : x < r.1
    · rw [if_pos h, if_pos h]
      by_cases h' : l.1 < x
      · rw [if_pos h']
      · rw [if_neg h']
        have : x = l.1 := by grind
        subst this
        exact betw_at h1 h2
    · rw [if_neg h, if_neg h]
      exact sclW_scl h3 fun p hp => by cases hp; grind
theorem scl_low {x : Rat} : ∀ {l : Pt} {t : List Pt}, Gd (l :: t) → l.2 ≤ scl (l :: t) x
  | l, [], _ => Rat.le_refl
  | l, r :: t, hg => by
    obtain ⟨⟨h1, h2⟩, h3⟩ := hg
    unfold scl
    split
    · split
      · exact betw_ge h1 h2 (by grind)
      · exact Rat.le_refl
    · exact Rat.le_trans h2 (scl_low h3)
def lastP : List Pt → Pt | [] => (0, 0) | [p] => p | _ :: r :: t => lastP (r :: t)
theorem last_ge : ∀ {l : Pt} {t : List Pt}, Gd (l :: t) → l.2 ≤ (lastP (l :: t)).2 ∧ l.1 ≤ (lastP (l :: t)).1
  | l, [], _ => ⟨Rat.le_refl, Rat.le_refl⟩
  | l, r :: t, hg => by
    obtain ⟨⟨h1, h2⟩, h3⟩ := hg
    have := last_ge h3
    exact ⟨Rat.le_trans h2 this.1, Rat.le_trans (Rat.le_of_lt h1) this.2⟩
theorem scl_high {x : Rat} : ∀ {l : Pt} {t : List Pt}, Gd (l :: t) → scl (l :: t) x ≤ (lastP (l :: t)).2
  | l, [], _ => Rat.le_refl
  | l, r :: t, hg => by
    obtain ⟨⟨h1, h2⟩, h3⟩ := hg
    have hl := (last_ge h3).1
    unfold scl
    split
    · split
      · exact Rat.le_trans (betw_le h1 h2 (by grind)) hl
      · exact Rat.le_trans h2 hl
    · exact scl_high h3
theorem scl_left {x : Rat} {l : Pt} {t : List Pt} (hg : Gd (l :: t)) (hx : ¬ l.1 < x) : scl (l :: t) x = l.2 := by
  cases t with
  | nil => rfl
  | cons r t =>
    obtain ⟨⟨h1, h2⟩, h3⟩ := hg
    unfold scl
    rw [if_pos (by grind), if_neg hx]
theorem scl_right {x : Rat} : ∀ {l : Pt} {t : List Pt}, Gd (l :: t) → ¬ x < (lastP (l :: t)).1 → scl (l :: t) x = (lastP (l :: t)).2
  | l, [], _, _ => rfl
  | l, r :: t, hg, hx => by
    obtain ⟨⟨h1, h2⟩, h3⟩ := hg
    have hx' : ¬ x < (lastP (r :: t)).1 := hx
    have hl := (last_ge h3).2
    unfold scl
    rw [if_neg (by grind)]
    exact scl_right h3 hx'
theorem scl_mono {x y : Rat} (hxy : x ≤ y) : ∀ {l : Pt} {t : List Pt}, Gd (l :: t) → scl (l :: t) x ≤ scl (l :: t) y
  | l, [], _ => Rat.le_refl
  | l, r :: t, hg => by
    obtain ⟨⟨h1, h2⟩, h3⟩ := hg
    unfold scl
    by_cases hx : x < r.1
    · rw [if_pos hx]
      by_cases hy : y < r.1
      · rw [if_pos hy]
        by_cases lx : l.1 < x
        · rw [if_pos lx, if_pos (by grind)]; exact betw_mono h1 h2 hxy
        · rw [if_neg lx]
          split
          · exact betw_ge h1 h2 (by grind)
          · exact Rat.le_refl
      · rw [if_neg hy]
        refine Rat.le_trans ?_ (scl_low h3)
        split
        · exact betw_le h1 h2 (by grind)
        · exact h2
    · rw [if_neg hx, if_neg (by grind)]
      exact scl_mono hxy h3
/-- two neighbours -/
def Nb : List Pt → Pt → Pt → Prop
  | a :: b :: t, u, v => (a = u ∧ b = v) ∨ Nb (b :: t) u v
  | _, _, _ => False
theorem nb_ge {u v : Pt} : ∀ {l : Pt} {t : List Pt}, Gd (l :: t) → Nb (l :: t) u v → l.1 ≤ u.1 ∧ u.1 < v.1
  | l, [], _, h => h.elim
  | l, r :: t, hg, h => by
    obtain ⟨⟨h1, h2⟩, h3⟩ := hg
    rcases h with ⟨rfl, rfl⟩ | h
    · exact ⟨Rat.le_refl, h1⟩
    · have := nb_ge h3 h
      exact ⟨Rat.le_trans (Rat.le_of_lt h1) this.1, this.2⟩
theorem scl_strict {u v : Pt} (huv : u.2 < v.2) : ∀ {l : Pt} {t : List Pt} {x y : Rat}, x < y → Gd (l :: t) → Nb (l :: t) u v → x < v.1 → u.1 < y → scl (l :: t) x < scl (l :: t) y
  | l, [], _, _, _, _, h, _, _ => h.elim
  | l, r :: t, x, y, hxy, hg, hn, hv, hu => by
    obtain ⟨⟨h1, h2⟩, h3⟩ := hg
    rcases hn with ⟨rfl, rfl⟩ | hn
    · unfold scl
      rw [if_pos hv]
      by_cases hy : y < r.1
      · rw [if_pos hy, if_pos hu]
        by_cases lx : l.1 < x
        · rw [if_pos lx]; exact betw_lt h1 huv hxy
        · rw [if_neg lx]
          have := betw_lt h1 huv (x := l.1) (y := y) (by grind)
          rw [betw_at h1 h2] at this
          exact this
      · rw [if_neg hy]
        refine Std.lt_of_lt_of_le ?_ (scl_low h3)
        by_cases lx : l.1 < x
        · rw [if_pos lx]
          have := betw_lt h1 huv (x := x) (y := r.1) hv
          rw [betw_end h1 h2] at this
          exact this
        · rw [if_neg lx]; exact huv
    · obtain ⟨n1, n2⟩ := nb_ge h3 hn
      have hy : ¬ y < r.1 := by grind
      unfold scl
      rw [if_neg hy]
      by_cases hx : x < r.1
      · rw [if_pos hx]
        have := scl_strict huv (x := r.1) (y := y) (by grind) h3 hn (by grind) hu
        rw [scl_left h3 (by grind)] at this
        refine Std.lt_of_le_of_lt ?_ this
        split
        · exact betw_le h1 h2 (by grind)
        · exact h2
      · rw [if_neg hx]
        exact scl_strict huv hxy h3 hn hv hu
end L3

namespace L3
open PySem L2 HM
/-! ## small determinants -/
abbrev Mx := Nat → Nat → Int
abbrev Mq := Nat → Nat → Rat
def m2 (a : Mx) (p q x y : Nat) : Int := a p x * a q y - a p y * a q x
def m3 (a : Mx) (p q r x y z : Nat) : Int := a p x * m2 a q r y z - a p y * m2 a q r x z + a p z * m2 a q r x y
def m4 (a : Mx) (p q r s x y z w : Nat) : Int := a p x * m3 a q r s y z w - a p y * m3 a q r s x z w + a p z * m3 a q r s x y w - a p w * m3 a q r s x y z
def r2 (a : Mq) (p q x y : Nat) : Rat := a p x * a q y - a p y * a q x
def r3 (a : Mq) (p q r x y z : Nat) : Rat := a p x * r2 a q r y z - a p y * r2 a q r x z + a p z * r2 a q r x y
def r4 (a : Mq) (p q r s x y z w : Nat) : Rat := a p x * r3 a q r s y z w - a p y * r3 a q r s x z w + a p z * r3 a q r s x y w - a p w * r3 a q r s x y z
def qM (a : Mx) : Mq := fun i j => (a i j : Rat)
theorem m2_q (a : Mx) (p q x y : Nat) : ((m2 a p q x y : Int) : Rat) = r2 (qM a) p q x y := by unfold m2 r2 qM; push_cast; rfl
theorem m3_q (a : Mx) (p q r x y z : Nat) : ((m3 a p q r x y z : Int) : Rat) = r3 (qM a) p q r x y z := by
  unfold m3 r3; rw [← m2_q, ← m2_q, ← m2_q]; unfold qM; push_cast; rfl
theorem m4_q (a : Mx) (p q r s x y z w : Nat) : ((m4 a p q r s x y z w : Int) : Rat) = r4 (qM a) p q r s x y z w := by
  unfold m4 r4; rw [← m3_q, ← m3_q, ← m3_q, ← m3_q]; unfold qM; push_cast; rfl
def T1 (a : Mx) (i j : Nat) : Int := match i with | 0 => a 0 j | i => m2 a 0 i 0 j
def T2 (a : Mx) (i j : Nat) : Int := match i with | 0 => m2 a 0 1 j 1 | 1 => m2 a 0 1 0 j | i => m3 a 0 1 i 0 1 j
def T3 (a : Mx) (i j : Nat) : Int := match i with | 0 => m3 a 0 1 2 j 1 2 | 1 => m3 a 0 1 2 0 j 2 | 2 => m3 a 0 1 2 0 1 j | i => m4 a 0 1 2 i 0 1 2 j
def T4 (a : Mx) (i j : Nat) : Int := match i with | 0 => m4 a 0 1 2 3 j 1 2 3 | 1 => m4 a 0 1 2 3 0 j 2 3 | 2 => m4 a 0 1 2 3 0 1 j 3 | _ => m4 a 0 1 2 3 0 1 2 j
def Tk (k : Nat) (a : Mx) : Mx := match k with | 0 => a | 1 => T1 a | 2 => T2 a | 3 => T3 a | _ => T4 a
/-- the lead of the step ahead -/
def pv (k : Nat) (a : Mx) : Int := match k with | 0 => 1 | 1 => a 0 0 | 2 => m2 a 0 1 0 1 | 3 => m3 a 0 1 2 0 1 2 | _ => m4 a 0 1 2 3 0 1 2 3
def pq (k : Nat) (a : Mq) : Rat := match k with | 0 => 1 | 1 => a 0 0 | 2 => r2 a 0 1 0 1 | 3 => r3 a 0 1 2 0 1 2 | _ => r4 a 0 1 2 3 0 1 2 3
theorem pv_q (k : Nat) (a : Mx) : ((pv k a : Int) : Rat) = pq k (qM a) := by
  match k with
  | 0 => rfl
  | 1 => rfl
  | 2 => exact m2_q ..
  | 3 => exact m3_q ..
  | k + 4 => exact m4_q ..
theorem pv_next {k : Nat} (h : k < 4) (a : Mx) : Tk k a k k = pv (k + 1) a := by
  match k, h with
  | 0, _ => rfl
  | 1, _ => rfl
  | 2, _ => rfl
  | 3, _ => rfl
theorem step_own {k : Nat} (h : k < 4) (a : Mx) (j : Nat) : Tk (k + 1) a k j = Tk k a k j := by
  match k, h with
  | 0, _ => rfl
  | 1, _ => rfl
  | 2, _ => rfl
  | 3, _ => rfl
theorem step_ok {k i : Nat} (hk : k < 4) (hi : i < 4) (hne : i ≠ k) (a : Mx) (j : Nat) : Tk k a k k * Tk k a i j - Tk k a i k * Tk k a k j = pv k a * Tk (k + 1) a i j := by
  match k, i, hk, hi, hne with
  | 0, 1, _, _, _ => simp only [Tk, pv, T1, m2]; grind
  | 0, 2, _, _, _ => simp only [Tk, pv, T1, m2]; grind
  | 0, 3, _, _, _ => simp only [Tk, pv, T1, m2]; grind
  | 1, 0, _, _, _ => simp only [Tk, pv, T1, T2, m2]; grind
  | 1, 2, _, _, _ => simp only [Tk, pv, T1, T2, m3, m2]; grind
  | 1, 3, _, _, _ => simp only [Tk, pv, T1, T2, m3, m2]; grind
  | 2, 0, _, _, _ => simp only [Tk, pv, T2, T3, m3, m2]; grind
  | 2, 1, _, _, _ => simp only [Tk, pv, T2, T3, m3, m2]; grind
  | 2, 3, _, _, _ => simp only [Tk, pv, T2, T3, m4, m3, m2]; grind
  | 3, 0, _, _, _ => simp only [Tk, pv, T3, T4, m4, m3, m2]; grind
  | 3, 1, _, _, _ => simp only [Tk, pv, T3, T4, m4, m3, m2]; grind
  | 3, 2, _, _, _ => simp only [Tk, pv, T3, T4, m4, m3, m2]; grind
  | 3, 3, _, _, h => exact absurd rfl h
/-- two rows exchanged -/
def swp (k s i : Nat) : Nat := if i = k then s else if i = s then k else i
def swM (k s : Nat) (a : Mx) : Mx := fun i => a (swp k s i)
theorem swp_lt {k s i : Nat} (hi : i < k) (hs : k ≤ s) : swp k s i = i := by unfold swp; rw [if_neg (by omega), if_neg (by omega)]
theorem swp_ge {k s i : Nat} (hi : k ≤ i) (hs : k ≤ s) : k ≤ swp k s i := by unfold swp; split <;> (try split) <;> omega
theorem tk_swap {k s : Nat} (hk : k < 4) (hs : k ≤ s) (a : Mx) (i j : Nat) : Tk k (swM k s a) i j = Tk k a (swp k s i) j := by
  have hl : ∀ r c, r < k → swM k s a r c = a r c := fun r c hr => by unfold swM; rw [swp_lt hr hs]
  by_cases hi : i < k
  · rw [swp_lt hi hs]
    match k, hk, i, hi with
    | 1, _, 0, _ => exact hl 0 j (by omega)
    | 2, _, 0, _ => simp only [Tk, T2, m2, hl 0 _ (by omega : 0 < 2), hl 1 _ (by omega : 1 < 2)]
    | 2, _, 1, _ => simp only [Tk, T2, m2, hl 0 _ (by omega : 0 < 2), hl 1 _ (by omega : 1 < 2)]
    | 3, _, 0, _ => simp only [Tk, T3, m3, m2, hl 0 _ (by omega : 0 < 3), hl 1 _ (by omega : 1 < 3), hl 2 _ (by omega : 2 < 3)]
    | 3, _, 1, _ => simp only [Tk, T3, m3, m2, hl 0 _ (by omega : 0 < 3), hl 1 _ (by omega : 1 < 3), hl 2 _ (by omega : 2 < 3)]
    | 3, _, 2, _ => simp only [Tk, T3, m3, m2, hl 0 _ (by omega : 0 < 3), hl 1 _ (by omega : 1 < 3), hl 2 _ (by omega : 2 < 3)]
  · have hg := swp_ge (i := i) (by omega) hs
    have hi' : k ≤ i := by omega
    have hj : ∀ c, swM k s a i c = a (swp k s i) c := fun c => rfl
    generalize swp k s i = t at *
    match k, hk, i, hi', t, hg with
    | 0, _, i, _, t, _ => exact hj j
    | 1, _, i + 1, _, t + 1, _ => simp only [Tk, T1, m2, hl 0 _ (by omega : 0 < 1), hj]
    | 2, _, i + 2, _, t + 2, _ => simp only [Tk, T2, m3, m2, hl 0 _ (by omega : 0 < 2), hl 1 _ (by omega : 1 < 2), hj]
    | 3, _, i + 3, _, t + 3, _ => simp only [Tk, T3, m4, m3, m2, hl 0 _ (by omega : 0 < 3), hl 1 _ (by omega : 1 < 3), hl 2 _ (by omega : 2 < 3), hj]
theorem pv_swap_low {k s : Nat} (hk : k < 4) (hs : k ≤ s) (a : Mx) : pv k (swM k s a) = pv k a := by
  have hl : ∀ r c, r < k → swM k s a r c = a r c := fun r c hr => by unfold swM; rw [swp_lt hr hs]
  match k, hk with
  | 0, _ => rfl
  | 1, _ => simp only [pv, hl 0 _ (by omega : 0 < 1)]
  | 2, _ => simp only [pv, m2, hl 0 _ (by omega : 0 < 2), hl 1 _ (by omega : 1 < 2)]
  | 3, _ => simp only [pv, m3, m2, hl 0 _ (by omega : 0 < 3), hl 1 _ (by omega : 1 < 3), hl 2 _ (by omega : 2 < 3)]
theorem pv_swap {n k s : Nat} (hn : n ≤ 4) (hk : k ≤ s) (hs : s < n) (a : Mx) : pv n (swM k s a) = pv n a ∨ pv n (swM k s a) = - pv n a := by
  by_cases e : k = s
  · left
    subst e
    have : swM k k a = a := by funext i; unfold swM swp; split <;> simp_all
    rw [this]
  · right
    match n, k, s, hn, hs, (show k < s by omega) with
    | 2, 0, 1, _, _, _ => simp only [pv, m2, swM, swp]; simp; grind
    | 3, 0, 1, _, _, _ => simp only [pv, m3, m2, swM, swp]; simp; grind
    | 3, 0, 2, _, _, _ => simp only [pv, m3, m2, swM, swp]; simp; grind
    | 3, 1, 2, _, _, _ => simp only [pv, m3, m2, swM, swp]; simp; grind
    | 4, 0, 1, _, _, _ => simp only [pv, m4, m3, m2, swM, swp]; simp; grind
    | 4, 0, 2, _, _, _ => simp only [pv, m4, m3, m2, swM, swp]; simp; grind
    | 4, 0, 3, _, _, _ => simp only [pv, m4, m3, m2, swM, swp]; simp; grind
    | 4, 1, 2, _, _, _ => simp only [pv, m4, m3, m2, swM, swp]; simp; grind
    | 4, 1, 3, _, _, _ => simp only [pv, m4, m3, m2, swM, swp]; simp; grind
    | 4, 2, 3, _, _, _ => simp only [pv, m4, m3, m2, swM, swp]; simp; grind
    | 1, k, s, _, h1, h2 => omega
    | 2, k + 1, s, _, h1, h2 => omega
    | 3, k + 2, s, _, h1, h2 => omega
    | 4, k + 3, s, _, h1, h2 => omega
/-- no lead left: the determinant is 0 -/
theorem singular {n k : Nat} (hn : n ≤ 4) (hk : k < n) (a : Mx) (hp : pv k a ≠ 0) (h : ∀ s, k ≤ s → s < n → Tk k a s k = 0) : pv n a = 0 := by
  match n, k, hn, hk, hp, h with
  | 1, 0, _, _, _, h => exact h 0 (by omega) (by omega)
  | 2, 0, _, _, _, h =>
    have h0 : a 0 0 = 0 := h 0 (by omega) (by omega)
    have h1 : a 1 0 = 0 := h 1 (by omega) (by omega)
    simp only [pv, m2, h0, h1]; grind
  | 3, 0, _, _, _, h =>
    have h0 : a 0 0 = 0 := h 0 (by omega) (by omega)
    have h1 : a 1 0 = 0 := h 1 (by omega) (by omega)
    have h2 : a 2 0 = 0 := h 2 (by omega) (by omega)
    simp only [pv, m3, m2, h0, h1, h2]; grind
  | 4, 0, _, _, _, h =>
    have h0 : a 0 0 = 0 := h 0 (by omega) (by omega)
    have h1 : a 1 0 = 0 := h 1 (by omega) (by omega)
    have h2 : a 2 0 = 0 := h 2 (by omega) (by omega)
    have h3 : a 3 0 = 0 := h 3 (by omega) (by omega)
    simp only [pv, m4, m3, m2, h0, h1, h2, h3]; grind
  | 2, 1, _, _, _, h => exact h 1 (by omega) (by omega)
  | 3, 1, _, _, hp, h =>
    have h1 := h 1 (by omega) (by omega)
    have h2 := h 2 (by omega) (by omega)
    have e := step_ok (k := 1) (i := 2) (by omega) (by omega) (by omega) a 2
    rw [h1, h2] at e
    have e' : pv 1 a * pv 3 a = 0 := by
      have : pv 1 a * Tk 2 a 2 2 = 0 := by rw [← e]; grind
      exact this
    exact (Int.mul_eq_zero.mp e').resolve_left hp
  | 4, 1, _, _, hp, h =>
    have h1 := h 1 (by omega) (by omega)
    have h2 := h 2 (by omega) (by omega)
    have h3 := h 3 (by omega) (by omega)
    have e : pv 1 a * pv 1 a * pv 4 a = Tk 1 a 1 1 * (Tk 1 a 2 2 * Tk 1 a 3 3 - Tk 1 a 2 3 * Tk 1 a 3 2) - Tk 1 a 2 1 * (Tk 1 a 1 2 * Tk 1 a 3 3 - Tk 1 a 1 3 * Tk 1 a 3 2) + Tk 1 a 3 1 * (Tk 1 a 1 2 * Tk 1 a 2 3 - Tk 1 a 1 3 * Tk 1 a 2 2) := by
      simp only [Tk, pv, T1, m4, m3, m2]; grind
    rw [h1, h2, h3] at e
    have e' : pv 1 a * pv 1 a * pv 4 a = 0 := by rw [e]; grind
    rcases Int.mul_eq_zero.mp e' with z | z
    · exact absurd (Int.mul_eq_zero.mp z) (by simp [hp])
    · exact z
  | 3, 2, _, _, _, h => exact h 2 (by omega) (by omega)
  | 4, 2, _, _, hp, h =>
    have h2 := h 2 (by omega) (by omega)
    have h3 := h 3 (by omega) (by omega)
    have e := step_ok (k := 2) (i := 3) (by omega) (by omega) (by omega) a 3
    rw [h2, h3] at e
    have e' : pv 2 a * pv 4 a = 0 := by
      have : pv 2 a * Tk 3 a 3 3 = 0 := by rw [← e]; grind
      exact this
    exact (Int.mul_eq_zero.mp e').resolve_left hp
  | 4, 3, _, _, _, h => exact h 3 (by omega) (by omega)
def sumX (n : Nat) (f : Nat → Rat) : Rat := match n with | 0 => 0 | n + 1 => sumX n f + f n
theorem tn_diag {n i : Nat} (hn : n ≤ 4) (hi : i < n) (a : Mx) : Tk n a i i = pv n a := by
  match n, i, hn, hi with
  | 1, 0, _, _ => rfl
  | 2, 0, _, _ => rfl
  | 2, 1, _, _ => rfl
  | 3, 0, _, _ => rfl
  | 3, 1, _, _ => rfl
  | 3, 2, _, _ => rfl
  | 4, 0, _, _ => rfl
  | 4, 1, _, _ => rfl
  | 4, 2, _, _ => rfl
  | 4, 3, _, _ => rfl
/-- Cramer -/
theorem cramer {n i : Nat} (hn : n ≤ 4) (hi : i < n) (a : Mx) (x : Nat → Rat) (h : ∀ r, r < n → (a r n : Rat) = sumX n fun j => (a r j : Rat) * x j) : ((Tk n a i n : Int) : Rat) = (pv n a : Rat) * x i := by
  match n, i, hn, hi with
  | 1, 0, _, _ =>
    have h0 := h 0 (by omega)
    simp only [sumX] at h0
    simp only [Tk, T1, pv]
    rw [h0]; grind
  | 2, 0, _, _ =>
    have h0 := h 0 (by omega); have h1 := h 1 (by omega)
    simp only [sumX] at h0 h1
    simp only [Tk, T2, pv, m2_q, r2, qM]; rw [h0, h1]; grind
  | 2, 1, _, _ =>
    have h0 := h 0 (by omega); have h1 := h 1 (by omega)
    simp only [sumX] at h0 h1
    simp only [Tk, T2, pv, m2_q, r2, qM]; rw [h0, h1]; grind
  | 3, 0, _, _ =>
    have h0 := h 0 (by omega); have h1 := h 1 (by omega); have h2 := h 2 (by omega)
    simp only [sumX] at h0 h1 h2
    simp only [Tk, T3, pv, m3_q, r3, r2, qM]; rw [h0, h1, h2]; grind
  | 3, 1, _, _ =>
    have h0 := h 0 (by omega); have h1 := h 1 (by omega); have h2 := h 2 (by omega)
    simp only [sumX] at h0 h1 h2
    simp only [Tk, T3, pv, m3_q, r3, r2, qM]; rw [h0, h1, h2]; grind
  | 3, 2, _, _ =>
    have h0 := h 0 (by omega); have h1 := h 1 (by omega); have h2 := h 2 (by omega)
    simp only [sumX] at h0 h1 h2
    simp only [Tk, T3, pv, m3_q, r3, r2, qM]; rw [h0, h1, h2]; grind
  | 4, 0, _, _ =>
    have h0 := h 0 (by omega); have h1 := h 1 (by omega); have h2 := h 2 (by omega); have h3 := h 3 (by omega)
    simp only [sumX] at h0 h1 h2 h3
    simp only [Tk, T4, pv, m4_q, r4, r3, r2, qM]; rw [h0, h1, h2, h3]; grind
  | 4, 1, _, _ =>
    have h0 := h 0 (by omega); have h1 := h 1 (by omega); have h2 := h 2 (by omega); have h3 := h 3 (by omega)
    simp only [sumX] at h0 h1 h2 h3
    simp only [Tk, T4, pv, m4_q, r4, r3, r2, qM]; rw [h0, h1, h2, h3]; grind
  | 4, 2, _, _ =>
    have h0 := h 0 (by omega); have h1 := h 1 (by omega); have h2 := h 2 (by omega); have h3 := h 3 (by omega)
    simp only [sumX] at h0 h1 h2 h3
    simp only [Tk, T4, pv, m4_q, r4, r3, r2, qM]; rw [h0, h1, h2, h3]; grind
  | 4, 3, _, _ =>
    have h0 := h 0 (by omega); have h1 := h 1 (by omega); have h2 := h 2 (by omega); have h3 := h 3 (by omega)
    simp only [sumX] at h0 h1 h2 h3
    simp only [Tk, T4, pv, m4_q, r4, r3, r2, qM]; rw [h0, h1, h2, h3]; grind
/-- rows taken times numbers -/
theorem pq_scale {n : Nat} (hn : n ≤ 4) (A B : Mq) (μ : Nat → Rat) (h : ∀ i, i < n → ∀ j, j < n → B i j = μ i * A i j) (hμ : ∀ i, i < n → μ i ≠ 0) : pq n B = 0 ↔ pq n A = 0 := by
  have key : ∃ c : Rat, c ≠ 0 ∧ pq n B = c * pq n A := by
    match n, hn with
    | 0, _ => exact ⟨1, by decide, by simp only [pq]; grind⟩
    | 1, _ => exact ⟨μ 0, hμ 0 (by omega), by simp only [pq]; exact h 0 (by omega) 0 (by omega)⟩
    | 2, _ =>
      refine ⟨μ 0 * μ 1, fun z => ?_, ?_⟩
      · rcases Rat.mul_eq_zero.mp z with z | z
        · exact hμ 0 (by omega) z
        · exact hμ 1 (by omega) z
      · simp only [pq, r2]
        rw [h 0 (by omega) 0 (by omega), h 0 (by omega) 1 (by omega), h 1 (by omega) 0 (by omega), h 1 (by omega) 1 (by omega)]
        grind
    | 3, _ =>
      refine ⟨μ 0 * μ 1 * μ 2, fun z => ?_, ?_⟩
      · rcases Rat.mul_eq_zero.mp z with z | z
        · rcases Rat.mul_eq_zero.mp z with z | z
          · exact hμ 0 (by omega) z
          · exact hμ 1 (by omega) z
        · exact hμ 2 (by omega) z
      · simp only [pq, r3, r2]
        rw [h 0 (by omega) 0 (by omega), h 0 (by omega) 1 (by omega), h 0 (by omega) 2 (by omega), h 1 (by omega) 0 (by omega), h 1 (by omega) 1 (by omega), h 1 (by omega) 2 (by omega), h 2 (by omega) 0 (by omega), h 2 (by omega) 1 (by omega), h 2 (by omega) 2 (by omega)]
        grind
    | 4, _ =>
      refine ⟨μ 0 * μ 1 * μ 2 * μ 3, fun z => ?_, ?_⟩
      · rcases Rat.mul_eq_zero.mp z with z | z
        · rcases Rat.mul_eq_zero.mp z with z | z
          · rcases Rat.mul_eq_zero.mp z with z | z
            · exact hμ 0 (by omega) z
            · exact hμ 1 (by omega) z
          · exact hμ 2 (by omega) z
        · exact hμ 3 (by omega) z
      · simp only [pq, r4, r3, r2]
        rw [h 0 (by omega) 0 (by omega), h 0 (by omega) 1 (by omega), h 0 (by omega) 2 (by omega), h 0 (by omega) 3 (by omega), h 1 (by omega) 0 (by omega), h 1 (by omega) 1 (by omega), h 1 (by omega) 2 (by omega), h 1 (by omega) 3 (by omega), h 2 (by omega) 0 (by omega), h 2 (by omega) 1 (by omega), h 2 (by omega) 2 (by omega), h 2 (by omega) 3 (by omega), h 3 (by omega) 0 (by omega), h 3 (by omega) 1 (by omega), h 3 (by omega) 2 (by omega), h 3 (by omega) 3 (by omega)]
        grind
  obtain ⟨c, c0, e⟩ := key
  rw [e]
  constructor
  · intro z; exact (Rat.mul_eq_zero.mp z).resolve_left c0
  · intro z; rw [z, Rat.mul_zero]
end L3

namespace L3
open PySem L2 HM
/-! ## fractions: promises -/
def sp_divisor (_ : Cls) : Sp2 := fun ds P _ => ∃ i j, ds = [.int i, .int j] ∧ P (.int (Int.gcd i j))
def sp_fraction (c : Cls) : Sp2 := fun ds P E => ∃ i j : Int, ds = [.int i, .int j] ∧ bln i ≤ 9000 ∧ bln j ≤ 9000 ∧ if j = 0 then E (.ref c.NoFraction) else P (qD ((i : Rat) / (j : Rat)))
def sp_plus (c : Cls) : Sp2 := fun ds P _ => ∃ a b : Rat, ds = [qD a, qD b] ∧ Sz 4000 a ∧ Sz 4000 b ∧ P (qD (a + b))
def sp_minus (c : Cls) : Sp2 := fun ds P _ => ∃ a b : Rat, ds = [qD a, qD b] ∧ Sz 4000 a ∧ Sz 4000 b ∧ P (qD (a - b))
def sp_times (c : Cls) : Sp2 := fun ds P _ => ∃ a b : Rat, ds = [qD a, qD b] ∧ Sz 4000 a ∧ Sz 4000 b ∧ P (qD (a * b))
def sp_over (c : Cls) : Sp2 := fun ds P E => ∃ a b : Rat, ds = [qD a, qD b] ∧ Sz 4000 a ∧ Sz 4000 b ∧ if b = 0 then E (.ref c.NoFraction) else P (qD (a / b))
def sp_under (c : Cls) : Sp2 := fun ds P _ => ∃ a b : Rat, ds = [qD a, qD b] ∧ Sz 4000 a ∧ Sz 4000 b ∧ P (.bl (decide (a < b)))

def cellV (ns : List Int) (k : Nat) : Int := if h : k < ns.length then ns[k] else
  let m : Int := if ns = [] then (k : Int) * 7919 + 5 else (ns.getD ((k * 7) % ns.length) 0 * 48271 + (k : Int) * 7919).fmod 2147483647
  (m * m).fmod 2147483629
def sp_law_cell (_ : Cls) : Sp2 := fun ds P _ => ∃ (ns : List Int) (k : Nat), ds = [.lst (ns.map .int), .int k] ∧ ns.length ≤ 63 ∧ k < 1000 ∧ P (.int (cellV ns k))
def sp_law_divisor (_ : Cls) : Sp2 := fun ds P _ => ∃ i j, ds = [.int i, .int j] ∧ P (.int (Int.gcd i j))
def sp_law_low (_ : Cls) : Sp2 := fun ds P _ => ∃ i j : Int, ds = [.int i, .int j] ∧ bln i ≤ 9000 ∧ bln j ≤ 9000 ∧ j ≠ 0 ∧ P (qD ((i : Rat) / (j : Rat)))
/-- a fraction held against a fraction -/
def sp_law_is (_ : Cls) : Sp2 := fun ds P _ => ∃ (x : D) (f : Rat), ds = [x, qD f] ∧ (x = .non ∨ ∃ g, x = qD g) ∧ ∀ b : Bool, (b = true ↔ x = qD f) → P (.bl b)
def sp_law (_ : Cls) : Sp2 := sp_law0

/-! ## systems: promises -/
def rowD (m : Nat) (f : Nat → Int) : D := .lst ((List.range m).map fun j => .int (f j))
def tabD (n m : Nat) (a : Mx) : D := .lst ((List.range n).map fun i => rowD m (a i))
def rowQ (m : Nat) (f : Nat → Rat) : D := .lst ((List.range m).map fun j => qD (f j))
def tabQ (n m : Nat) (a : Mq) : D := .lst ((List.range n).map fun i => rowQ m (a i))
def sp_whole_row (_ : Cls) : Sp2 := fun ds P _ => ∃ (m : Nat) (f : Nat → Rat), ds = [rowQ m f] ∧ m ≤ 5 ∧ (∀ j, j < m → Sz 250 (f j)) ∧ ∀ (μ : Int) (g : Nat → Int), 0 < μ → (∀ j, j < m → (g j : Rat) = (μ : Rat) * f j) → (∀ j, bln (g j) ≤ 1600) → P (rowD m g)
def sp_without (_ : Cls) : Sp2 := fun ds P _ => ∃ (m k : Nat) (f g h : Nat → Int) (p : Int), ds = [rowD m f, rowD m g, .int k, .int p] ∧ k < m ∧ p ≠ 0 ∧ bln p ≤ 9000 ∧ (∀ j, bln (f j) ≤ 7000) ∧ (∀ j, bln (g j) ≤ 7000) ∧ (∀ j, j < m → g k * f j - f k * g j = p * h j) ∧ P (rowD m h)
def sp_cleared (_ : Cls) : Sp2 := fun ds P _ => ∃ (a b : Mx) (n m k : Nat) (p : Int), ds = [tabD n m a, .int k, .int p] ∧ k < n ∧ k < m ∧ p ≠ 0 ∧ bln p ≤ 9000 ∧ (∀ i j, i < n → j < m → bln (a i j) ≤ 7000) ∧ (∀ j, j < m → b k j = a k j) ∧ (∀ i j, i < n → j < m → i ≠ k → a k k * a i j - a i k * a k j = p * b i j) ∧ P (tabD n m b)
def sp_exchanged (_ : Cls) : Sp2 := fun ds P _ => ∃ (a : Mx) (n m k s : Nat), ds = [tabD n m a, .int k, .int s] ∧ k < n ∧ s < n ∧ P (tabD n m (swM k s a))
def sp_led (c : Cls) : Sp2 := fun ds P E => ∃ (a : Mx) (n m k : Nat), ds = [tabD n m a, .int k] ∧ n ≤ 1000 ∧ k < n ∧ k < m ∧ (∀ s, k ≤ s → s < n → a s k ≠ 0 → P (tabD n m (swM k s a))) ∧ ((∀ s, k ≤ s → s < n → a s k = 0) → E (.ref c.NoAnswer))
/-- the rows, the right sides in the place behind them -/
def Sys (n : Nat) (A : Mq) (ds : List D) : Prop := ds = [tabQ n n A, rowQ n fun i => A i n] ∧ n ≤ 4 ∧ ∀ i j, i < n → j ≤ n → Sz 250 (A i j)
def Slv (n : Nat) (A : Mq) (x : Nat → Rat) : Prop := ∀ r, r < n → A r n = sumX n fun j => A r j * x j
def sp_solved (c : Cls) : Sp2 := fun ds P E => ∃ (n : Nat) (A : Mq) (x : Nat → Rat), Sys n A ds ∧ (pq n A = 0 → E (.ref c.NoAnswer)) ∧ (pq n A ≠ 0 → Slv n A x ∧ P (rowQ n x))

/-! ## the law's own: promises -/
def BkM (B : Nat) (a : Mx) : Prop := ∀ i j, bln (a i j) ≤ B
def sumI (n : Nat) (f : Nat → Int) : Int := match n with | 0 => 0 | n + 1 => sumI n f + f n
/-- the row is a sum of the others -/
def LeanR (n t : Nat) (a : Mx) (r : Nat → Int) : Prop := ∃ w : Nat → Int, ∀ j, r j = sumI n fun k => if k = t then 0 else w k * a k j
def sp_law_kind (_ : Cls) : Sp2 := fun ds P _ => ∃ (n : Nat) (A : Mq), Sys n A ds ∧ pq n A = 0 ∧ P (.bl true)
def sp_law_leaning_row (_ : Cls) : Sp2 := fun ds P _ => ∃ (ns : List Int) (n t : Nat) (a : Mx) (b : Nat → Int), ds = [.lst (ns.map .int), tabD n n a, rowD n b, .int t] ∧ ns.length ≤ 63 ∧ 0 < n ∧ n ≤ 4 ∧ BkM 20 a ∧ (∀ i, bln (b i) ≤ 20) ∧ ∀ (r : Nat → Int) (s : Int), LeanR n t a r → (∀ j, bln (r j) ≤ 40) → bln s ≤ 40 → P (.tup [rowD n r, .int s])
def sp_law_diagonal (_ : Cls) : Sp2 := fun ds P _ => ∃ (ns : List Int) (n : Nat), ds = [.lst (ns.map .int), .int n] ∧ ns.length ≤ 63 ∧ 0 < n ∧ n ≤ 4 ∧ ∀ (A : Mq) (x : Nat → Rat), (∀ i j, i < n → j ≤ n → Sz 250 (A i j)) → Slv n A x → pq n A ≠ 0 → P (.tup [tabQ n n A, rowQ n (fun i => A i n), rowQ n x])

def rd_law_cell_3 (K : PySem.W.Frag) (c : Cls) : TS2 := (cRet (cB gMod (cB gMul (cV 2) (cV 2)) (cC (.int 2147483629))))
def rd_law_cell_2 (K : PySem.W.Frag) (c : Cls) : TS2 := (cSeq (cIfS (cT (cB gGt (cCB u_len (cCons (cV 0) cNil)) (cC (.int 0))))
 (cSet 2 (cB gMod (cB gAdd (cB gMul (cB gIx (cV 0) (cB gMod (cB gMul (cV 1) (cC (.int 7))) (cCB u_len (cCons (cV 0) cNil)))) (cC (.int 48271))) (cB gMul (cV 1) (cC (.int 7919)))) (cC (.int 2147483647))))
 cNext)
 (rd_law_cell_3 K c))
def rd_law_cell_1 (K : PySem.W.Frag) (c : Cls) : TS2 := (cSeq (cSet 2 (cB gAdd (cB gMul (cV 1) (cC (.int 7919))) (cC (.int 5))))
 (rd_law_cell_2 K c))
def rd_law_cell (K : PySem.W.Frag) (c : Cls) : TS2 := (cSeq (cIfS (cT (cB gLt (cV 1) (cCB u_len (cCons (cV 0) cNil))))
 (cRet (cB gIx (cV 0) (cV 1)))
 cNext)
 (rd_law_cell_1 K c))
def rd_law_leaning_row_b1 (K : PySem.W.Frag) (c : Cls) : TS2 := (cIfS (cT (cB gNe (cV 6) (cV 3)))
 (cSeq (cSet 7 (cB gSub (cB gMod (cCall (sp_law_cell c) (cCons (cV 0) (cCons (cB gAdd (cC (.int 30)) (cV 6)) cNil))) (cC (.int 5))) (cC (.int 2))))
 (cSeq (cSetF 4 (fComp 2 [7] (i_zip (cCons (cV 4) (cCons (cB gIx (cV 1) (cV 6)) cNil))) (hTup 2 (hCons (hName 0) (hCons (hName 1) hNil))) cYes (cB gAdd (cV 0) (cB gMul (cV 2) (cV 1)))))
 (cSet 5 (cB gAdd (cV 5) (cB gMul (cV 7) (cB gIx (cV 2) (cV 6)))))))
 cNext)
def rd_law_leaning_row_3 (K : PySem.W.Frag) (c : Cls) : TS2 := (cRetR (cTup (cCons (cOwR 4) (cCons (cNl (cV 5)) cNil))))
def rd_law_leaning_row_2 (K : PySem.W.Frag) (c : Cls) : TS2 := (cSeq (cRng1 (cCons (cCB u_len (cCons (cV 1) cNil)) cNil) (hName 6)
 (rd_law_leaning_row_b1 K c))
 (rd_law_leaning_row_3 K c))
def rd_law_leaning_row_1 (K : PySem.W.Frag) (c : Cls) : TS2 := (cSeq (cSet 5 (cC (.int 0)))
 (rd_law_leaning_row_2 K c))
def rd_law_leaning_row (K : PySem.W.Frag) (c : Cls) : TS2 := (cSeq (cSetF 4 (fRep (fLst (cCons (cC (.int 0)) cNil)) (cCB u_len (cCons (cB gIx (cV 1) (cC (.int 0))) cNil))))
 (rd_law_leaning_row_1 K c))
def rd_law_diagonal_b1_5 (K : PySem.W.Frag) (c : Cls) : TS2 := (cOw 4 w_append (cCons (cTup (cCons (cV 7) (cCons (cTup (cCons (cV 9) (cCons (cC (.int 1)) cNil))) cNil))) cNil))
def rd_law_diagonal_b1_4 (K : PySem.W.Frag) (c : Cls) : TS2 := (cSeq (cOw 3 w_append (cCons (cTup (cCons (cB gMul (cV 8) (cV 9)) (cCons (cC (.int 1)) cNil))) cNil))
 (rd_law_diagonal_b1_5 K c))
def rd_law_diagonal_b1_3 (K : PySem.W.Frag) (c : Cls) : TS2 := (cSeq (cOw 2 w_append (cCons (cOf (fComp 1 [7, 8] (iRg1 (cCons (cV 1) cNil)) (hName 0) cYes (cTup (cCons (cB gMul (cV 2) (cCB u_int (cCons (cB gEq (cV 0) (cV 1)) cNil))) (cCons (cC (.int 1)) cNil))))) cNil))
 (rd_law_diagonal_b1_4 K c))
def rd_law_diagonal_b1_2 (K : PySem.W.Frag) (c : Cls) : TS2 := (cSeq (cSet 9 (cB gSub (cB gMod (cCall (sp_law_cell c) (cCons (cV 0) (cCons (cB gAdd (cC (.int 46)) (cV 6)) cNil))) (cC (.int 19))) (cC (.int 9))))
 (rd_law_diagonal_b1_3 K c))
def rd_law_diagonal_b1_1 (K : PySem.W.Frag) (c : Cls) : TS2 := (cSeq (cSet 8 (cB gAdd (cC (.int 1)) (cB gMod (cCall (sp_law_cell c) (cCons (cV 0) (cCons (cB gAdd (cC (.int 41)) (cV 6)) cNil))) (cC (.int 9)))))
 (rd_law_diagonal_b1_2 K c))
def rd_law_diagonal_b1 (K : PySem.W.Frag) (c : Cls) : TS2 := (cSeq (cSet 7 (cB gMod (cB gAdd (cV 6) (cV 5)) (cV 1)))
 (rd_law_diagonal_b1_1 K c))
def rd_law_diagonal_5 (K : PySem.W.Frag) (c : Cls) : TS2 := (cRet (cTup (cCons (cV 2) (cCons (cV 3) (cCons (cOf (fComp 2 [] (iL (cOf (fCB n_sortedT (cCons (cV 4) cNil)))) (hTup 2 (hCons (hName 0) (hCons (hName 1) hNil))) cYes (cV 1))) cNil)))))
def rd_law_diagonal_4 (K : PySem.W.Frag) (c : Cls) : TS2 := (cSeq (cRng1 (cCons (cV 1) cNil) (hName 6)
 (rd_law_diagonal_b1 K c))
 (rd_law_diagonal_5 K c))
def rd_law_diagonal_3 (K : PySem.W.Frag) (c : Cls) : TS2 := (cSeq (cSet 5 (cB gMod (cCall (sp_law_cell c) (cCons (cV 0) (cCons (cC (.int 40)) cNil))) (cV 1)))
 (rd_law_diagonal_4 K c))
def rd_law_diagonal_2 (K : PySem.W.Frag) (c : Cls) : TS2 := (cSeq (cSetF 4 (fLst cNil))
 (rd_law_diagonal_3 K c))
def rd_law_diagonal_1 (K : PySem.W.Frag) (c : Cls) : TS2 := (cSeq (cSetF 3 (fLst cNil))
 (rd_law_diagonal_2 K c))
def rd_law_diagonal (K : PySem.W.Frag) (c : Cls) : TS2 := (cSeq (cSetF 2 (fLst cNil))
 (rd_law_diagonal_1 K c))
def rd_divisor_b1_2 (K : PySem.W.Frag) (c : Cls) : TS2 := (cSet 1 (cV 2))
def rd_divisor_b1_1 (K : PySem.W.Frag) (c : Cls) : TS2 := (cSeq (cSet 0 (cV 1))
 (rd_divisor_b1_2 K c))
def rd_divisor_b1 (K : PySem.W.Frag) (c : Cls) : TS2 := (cSeq (cSet 2 (cB gMod (cV 0) (cV 1)))
 (rd_divisor_b1_1 K c))
def rd_divisor_1 (K : PySem.W.Frag) (c : Cls) : TS2 := (cRet (cCB u_abs (cCons (cV 0) cNil)))
def rd_divisor (K : PySem.W.Frag) (c : Cls) : TS2 := (cSeq (cWhile (cT (cB gNe (cV 1) (cC (.int 0))))
 (rd_divisor_b1 K c))
 (rd_divisor_1 K c))
def rd_whole_row_b1 (K : PySem.W.Frag) (c : Cls) : TS2 := (cSet 1 (cB gMul (cV 1) (cB gDiv (cB gIx (cV 2) (cC (.int 1))) (cCall (sp_divisor c) (cCons (cV 1) (cCons (cB gIx (cV 2) (cC (.int 1))) cNil))))))
def rd_whole_row_2 (K : PySem.W.Frag) (c : Cls) : TS2 := (cRet (cOf (fComp 1 [1] (iL (cV 0)) (hName 0) cYes (cB gMul (cB gIx (cV 0) (cC (.int 0))) (cB gDiv (cV 1) (cB gIx (cV 0) (cC (.int 1))))))))
def rd_whole_row_1 (K : PySem.W.Frag) (c : Cls) : TS2 := (cSeq (cFor (cV 0) (hName 2)
 (rd_whole_row_b1 K c))
 (rd_whole_row_2 K c))
def rd_whole_row (K : PySem.W.Frag) (c : Cls) : TS2 := (cSeq (cSet 1 (cC (.int 1)))
 (rd_whole_row_1 K c))
def rd_without (K : PySem.W.Frag) (c : Cls) : TS2 := (cRet (cOf (fComp 2 [0, 1, 2, 3] (i_zip (cCons (cV 0) (cCons (cV 1) cNil))) (hTup 2 (hCons (hName 0) (hCons (hName 1) hNil))) cYes (cB gDiv (cB gSub (cB gMul (cB gIx (cV 3) (cV 4)) (cV 0)) (cB gMul (cB gIx (cV 2) (cV 4)) (cV 1))) (cV 5)))))
def rd_cleared_1 (K : PySem.W.Frag) (c : Cls) : TS2 := (cRet (cOf (fComp 2 [1, 2, 3] (i_enumerate (cCons (cV 0) cNil)) (hTup 2 (hCons (hName 0) (hCons (hName 1) hNil))) cYes (cIf (cT (cB gEq (cV 0) (cV 2))) (cV 1) (cCall (sp_without c) (cCons (cV 1) (cCons (cV 4) (cCons (cV 2) (cCons (cV 3) cNil)))))))))
def rd_cleared (K : PySem.W.Frag) (c : Cls) : TS2 := (cSeq (cSet 3 (cB gIx (cV 0) (cV 1)))
 (rd_cleared_1 K c))
def rd_fraction_3 (K : PySem.W.Frag) (c : Cls) : TS2 := (cRet (cTup (cCons (cB gDiv (cV 0) (cV 2)) (cCons (cB gDiv (cV 1) (cV 2)) cNil))))
def rd_fraction_2 (K : PySem.W.Frag) (c : Cls) : TS2 := (cSeq (cIfS (cT (cB gLt (cV 1) (cC (.int 0))))
 (cSet 2 (cU gNeg (cV 2)))
 cNext)
 (rd_fraction_3 K c))
def rd_fraction_1 (K : PySem.W.Frag) (c : Cls) : TS2 := (cSeq (cSet 2 (cCall (sp_divisor c) (cCons (cV 0) (cCons (cV 1) cNil))))
 (rd_fraction_2 K c))
def rd_fraction (K : PySem.W.Frag) (c : Cls) : TS2 := (cSeq (cIfS (cT (cB gEq (cV 1) (cC (.int 0))))
 (cRaise c.NoFraction (cCons (cC (.str (Str.ofString "the bottom of a fraction is not 0"))) cNil))
 cNext)
 (rd_fraction_1 K c))
def rd_exchanged_3 (K : PySem.W.Frag) (c : Cls) : TS2 := (cRet (cV 3))
def rd_exchanged_2 (K : PySem.W.Frag) (c : Cls) : TS2 := (cSeq (cPut 3 (cV 2) (cB gIx (cV 0) (cV 1)))
 (rd_exchanged_3 K c))
def rd_exchanged_1 (K : PySem.W.Frag) (c : Cls) : TS2 := (cSeq (cPut 3 (cV 1) (cB gIx (cV 0) (cV 2)))
 (rd_exchanged_2 K c))
def rd_exchanged (K : PySem.W.Frag) (c : Cls) : TS2 := (cSeq (cSetF 3 (fCB n_list (cCons (cV 0) cNil)))
 (rd_exchanged_1 K c))
def rd_led_b1 (K : PySem.W.Frag) (c : Cls) : TS2 := (cIfS (cT (cB gNe (cB gIx (cB gIx (cV 0) (cV 2)) (cV 1)) (cC (.int 0))))
 (cRet (cCall (sp_exchanged c) (cCons (cV 0) (cCons (cV 1) (cCons (cV 2) cNil)))))
 cNext)
def rd_led_1 (K : PySem.W.Frag) (c : Cls) : TS2 := (cRaise c.NoAnswer (cCons (cC (.str (Str.ofString "the system has no answer, or several"))) cNil))
def rd_led (K : PySem.W.Frag) (c : Cls) : TS2 := (cSeq (cRng2 (cCons (cV 1) (cCons (cCB u_len (cCons (cV 0) cNil)) cNil)) (hName 2)
 (rd_led_b1 K c))
 (rd_led_1 K c))
def rd_solved_b1_1 (K : PySem.W.Frag) (c : Cls) : TS2 := (cSet 3 (cB gIx (cB gIx (cV 2) (cV 4)) (cV 4)))
def rd_solved_b1 (K : PySem.W.Frag) (c : Cls) : TS2 := (cSeq (cSet 2 (cCall (sp_cleared c) (cCons (cCall (sp_led c) (cCons (cV 2) (cCons (cV 4) cNil))) (cCons (cV 4) (cCons (cV 3) cNil)))))
 (rd_solved_b1_1 K c))
def rd_solved_3 (K : PySem.W.Frag) (c : Cls) : TS2 := (cRet (cOf (fComp 2 [] (i_enumerate (cCons (cV 2) cNil)) (hTup 2 (hCons (hName 0) (hCons (hName 1) hNil))) cYes (cCall (sp_fraction c) (cCons (cB gIx (cV 1) (cU gNeg (cC (.int 1)))) (cCons (cB gIx (cV 1) (cV 0)) cNil))))))
def rd_solved_2 (K : PySem.W.Frag) (c : Cls) : TS2 := (cSeq (cRng1 (cCons (cCB u_len (cCons (cV 2) cNil)) cNil) (hName 4)
 (rd_solved_b1 K c))
 (rd_solved_3 K c))
def rd_solved_1 (K : PySem.W.Frag) (c : Cls) : TS2 := (cSeq (cSet 3 (cC (.int 1)))
 (rd_solved_2 K c))
def rd_solved (K : PySem.W.Frag) (c : Cls) : TS2 := (cSeq (cSet 2 (cOf (fComp 2 [] (i_zip (cCons (cV 0) (cCons (cV 1) cNil))) (hTup 2 (hCons (hName 0) (hCons (hName 1) hNil))) cYes (cCall (sp_whole_row c) (cCons (cOf (fCat (cV 0) (cOf (fLst (cCons (cV 1) cNil))))) cNil)))))
 (rd_solved_1 K c))
def rd_law_kind_2 (K : PySem.W.Frag) (c : Cls) : TS2 := (cRet (cV 2))
def rd_law_kind_1 (K : PySem.W.Frag) (c : Cls) : TS2 := (cSeq (cTryA K c.HallError 3 (cDrop (cCall (sp_solved c) (cCons (cV 0) (cCons (cV 1) cNil))))
 (cSet 2 (cAndV (cIsx K c.NoAnswer (cV 3)) (cNotV (cIst K [c.Barred, c.Missing, c.NoFraction] (cV 3))))))
 (rd_law_kind_2 K c))
def rd_law_kind (K : PySem.W.Frag) (c : Cls) : TS2 := (cSeq (cSet 2 (cC (.bl false)))
 (rd_law_kind_1 K c))
def rd_law_10 (K : PySem.W.Frag) (c : Cls) : TS2 := (cRet (cAndV (cB gEq (cCall (sp_solved c) (cCons (cV 7) (cCons (cV 8) cNil))) (cV 9)) (cB gEq (cCall (sp_solved c) (cCons (cOf (fLst cNil)) (cCons (cOf (fLst cNil)) cNil))) (cOf (fLst cNil)))))
def rd_law_9 (K : PySem.W.Frag) (c : Cls) : TS2 := (cSeq (cAsg (cCall (sp_law_diagonal c) (cCons (cV 0) (cCons (cB gAdd (cC (.int 1)) (cB gMod (cCall (sp_law_cell c) (cCons (cV 0) (cCons (cC (.int 25)) cNil))) (cC (.int 4)))) cNil))) (hTup 3 (hCons (hName 7) (hCons (hName 8) (hCons (hName 9) hNil)))))
 (rd_law_10 K c))
def rd_law_8 (K : PySem.W.Frag) (c : Cls) : TS2 := (cSeq (cIfS (cPeekT (cNot (cT (cCall (sp_law_kind c) (cCons (cV 7) (cCons (cOf (fComp 1 [] (iL (cV 3)) (hName 0) cYes (cTup (cCons (cV 0) (cCons (cC (.int 1)) cNil))))) cNil))))))
 (cRet (cC (.bl false)))
 cNext)
 (rd_law_9 K c))
def rd_law_7 (K : PySem.W.Frag) (c : Cls) : TS2 := (cSeq (cSet 7 (cOf (fComp 1 [] (iL (cV 2)) (hName 0) cYes (cOf (fComp 1 [] (iL (cV 0)) (hName 0) cYes (cTup (cCons (cV 0) (cCons (cC (.int 1)) cNil))))))))
 (rd_law_8 K c))
def rd_law_6 (K : PySem.W.Frag) (c : Cls) : TS2 := (cSeq (cIfS (cT (cB gEq (cB gMod (cB gDiv (cCall (sp_law_cell c) (cCons (cV 0) (cCons (cC (.int 1)) cNil))) (cC (.int 4))) (cC (.int 2))) (cC (.int 1))))
 (cPut 3 (cV 4) (cV 6))
 cNext)
 (rd_law_7 K c))
def rd_law_5 (K : PySem.W.Frag) (c : Cls) : TS2 := (cSeq (cPut 2 (cV 4) (cV 5))
 (rd_law_6 K c))
def rd_law_4 (K : PySem.W.Frag) (c : Cls) : TS2 := (cSeq (cAsg (cLendR (cCall (sp_law_leaning_row c) (cCons (cV 0) (cCons (cV 2) (cCons (cV 3) (cCons (cV 4) cNil)))))) (hTup 2 (hCons (hName 5) (hCons (hName 6) hNil))))
 (rd_law_5 K c))
def rd_law_3 (K : PySem.W.Frag) (c : Cls) : TS2 := (cSeq (cSet 4 (cB gMod (cCall (sp_law_cell c) (cCons (cV 0) (cCons (cC (.int 1)) cNil))) (cV 1)))
 (rd_law_4 K c))
def rd_law_2 (K : PySem.W.Frag) (c : Cls) : TS2 := (cSeq (cSetF 3 (fComp 1 [0] (iRg1 (cCons (cV 1) cNil)) (hName 0) cYes (cB gSub (cB gMod (cCall (sp_law_cell c) (cCons (cV 1) (cCons (cB gAdd (cC (.int 20)) (cV 0)) cNil))) (cC (.int 19))) (cC (.int 9)))))
 (rd_law_3 K c))
def rd_law_1 (K : PySem.W.Frag) (c : Cls) : TS2 := (cSeq (cSetF 2 (fComp 1 [0, 1] (iRg1 (cCons (cV 1) cNil)) (hName 0) cYes (cOf (fComp 1 [0, 1, 2] (iRg1 (cCons (cV 2) cNil)) (hName 0) cYes (cB gSub (cB gMod (cCall (sp_law_cell c) (cCons (cV 2) (cCons (cB gAdd (cB gAdd (cC (.int 2)) (cB gMul (cV 3) (cV 1))) (cV 0)) cNil))) (cC (.int 7))) (cC (.int 3)))))))
 (rd_law_2 K c))
def rd_law (K : PySem.W.Frag) (c : Cls) : TS2 := (cSeq (cSet 1 (cB gAdd (cC (.int 2)) (cB gMod (cCall (sp_law_cell c) (cCons (cV 0) (cCons (cC (.int 0)) cNil))) (cC (.int 3)))))
 (rd_law_1 K c))

theorem l_divisor {c : Cls} {ds P E} (h : sp_divisor c ds P E) : ds.length = 2 := by obtain ⟨_, _, rfl, _⟩ := h; rfl
theorem l_fraction {c : Cls} {ds P E} (h : sp_fraction c ds P E) : ds.length = 2 := by obtain ⟨_, _, rfl, _⟩ := h; rfl
theorem l_plus {c : Cls} {ds P E} (h : sp_plus c ds P E) : ds.length = 2 := by obtain ⟨_, _, rfl, _⟩ := h; rfl
theorem l_minus {c : Cls} {ds P E} (h : sp_minus c ds P E) : ds.length = 2 := by obtain ⟨_, _, rfl, _⟩ := h; rfl
theorem l_times {c : Cls} {ds P E} (h : sp_times c ds P E) : ds.length = 2 := by obtain ⟨_, _, rfl, _⟩ := h; rfl
theorem l_over {c : Cls} {ds P E} (h : sp_over c ds P E) : ds.length = 2 := by obtain ⟨_, _, rfl, _⟩ := h; rfl
theorem l_under {c : Cls} {ds P E} (h : sp_under c ds P E) : ds.length = 2 := by obtain ⟨_, _, rfl, _⟩ := h; rfl
theorem bln9 {j : Int} (h : j.natAbs < 2 ^ 64) : bln j ≤ 9000 := Nat.le_trans (bln_le h) (by decide)
abbrev fin (Q : D → Prop) : End2 := { nx := fun _ => Q .non, rt := Q }
theorem r_divisor {K : PySem.W.Frag} {c : Cls} {ds Q Ex} (h : sp_divisor c ds Q Ex) : rd_divisor K c (fin Q) (start3 3 ds) fun _ => Ex := by
  obtain ⟨i, j, rfl, h⟩ := h
  refine ⟨fun m Γ => ∃ a b r, Γ = [.pu (.int a), .pu (.int b), r] ∧ m = b.natAbs ∧ Int.gcd a b = Int.gcd i j, ⟨_, i, j, .no, rfl, rfl, rfl⟩, ?_⟩
  rintro m _ ⟨a, b, r, rfl, rfl, hg⟩
  refine ⟨trivial, ?_⟩
  by_cases hb : b = 0
  · subst hb
    have : (!deq (.int 0) (.int 0)) = false := by simp [deq]
    rw [this]
    show Q (.int (if a < 0 then -a else a))
    have e : (if a < 0 then -a else a) = ((Int.gcd i j : Nat) : Int) := by
      rw [← hg, Int.gcd_zero_right]
      split <;> omega
    rw [e]; exact h
  · have : (!deq (.int b) (.int 0)) = true := by simp [deq, hb]
    rw [this]
    exact ⟨hb, _, fmod_natAbs_lt hb, b, a.fmod b, .pu (.int (a.fmod b)), rfl, rfl, by rw [gcd_fmod, hg]⟩
theorem fr_bounds {i j : Int} (hj : j ≠ 0) : dv i j ≠ 0 ∧ ∀ n, bln i ≤ n → bln j ≤ n → bln (dv i j) ≤ n := by
  refine ⟨dv_ne hj, fun n h1 h2 => Nat.le_trans (bln_mono ?_) h2⟩
  obtain ⟨k, e⟩ := dv_dvd2 i j
  have h := congrArg Int.natAbs e
  rw [Int.natAbs_mul] at h
  rw [h]
  have : k ≠ 0 := fun z => hj (by rw [e, z, Int.mul_zero])
  exact Nat.le_mul_of_pos_right _ (by omega)
theorem r_fraction {K : PySem.W.Frag} {c : Cls} {ds Q Ex} (h : sp_fraction c ds Q Ex) : rd_fraction K c (fin Q) (start3 3 ds) fun _ => Ex := by
  obtain ⟨i, j, rfl, b1, b2, h⟩ := h
  refine ⟨trivial, ?_⟩
  by_cases hj : j = 0
  · subst hj
    have : deq (.int 0) (.int 0) = true := by simp [deq]
    rw [this]
    exact ⟨by decide, h⟩
  · have : deq (.int j) (.int 0) = false := by simp [deq, hj]
    rw [this]
    rw [if_neg hj, ← qD_fr hj] at h
    refine ⟨i, j, rfl, ?_⟩
    obtain ⟨d0, d1⟩ := fr_bounds (i := i) hj
    show if decide (j < 0) = true then _ else _
    by_cases hn : j < 0
    · rw [if_pos (by simpa using hn)]
      have e : dv i j = -((Int.gcd i j : Nat) : Int) := by unfold dv; rw [if_pos hn]
      exact ⟨⟨by rw [← e]; exact d0, by rw [← e]; exact d1 _ b1 b2⟩, ⟨by rw [← e]; exact d0, by rw [← e]; exact d1 _ b1 b2⟩, by show (2 : Nat) ≤ sizeLine; decide, by rw [← e]; exact h⟩
    · rw [if_neg (by simpa using hn)]
      have e : dv i j = ((Int.gcd i j : Nat) : Int) := by unfold dv; rw [if_neg hn]
      exact ⟨⟨by rw [← e]; exact d0, by rw [← e]; exact d1 _ b1 b2⟩, ⟨by rw [← e]; exact d0, by rw [← e]; exact d1 _ b1 b2⟩, by show (2 : Nat) ≤ sizeLine; decide, by rw [← e]; exact h⟩
theorem at0 {x y : D} : atI [x, y] 0 = some x := atI_nat (j := 0) rfl
theorem at1 {x y : D} : atI [x, y] 1 = some y := atI_nat (j := 1) rfl
theorem mulS {i j : Int} (h1 : bln i ≤ 4000) (h2 : bln j ≤ 4000) : MulC i j := .inr (.inr (by omega))
theorem mul9 {i j : Int} (h1 : bln i ≤ 4000) (h2 : bln j ≤ 4000) : bln (i * j) ≤ 8000 := by have := bln_mul_le i j; omega
theorem add9 {i j : Int} (h1 : bln i ≤ 8000) (h2 : bln j ≤ 8000) : bln (i + j) ≤ 9000 := by have := bln_add_le i j; omega
theorem sub9 {i j : Int} (h1 : bln i ≤ 8000) (h2 : bln j ≤ 8000) : bln (i - j) ≤ 9000 := by have := bln_sub_le i j; omega
theorem up9 {i : Int} (h1 : bln i ≤ 8000) : bln i ≤ 9000 := by omega
theorem compR_dem {α : Type} {one : D → (List D → Prop) → Prop} (f : α → D) (Good : α → Prop) : ∀ {xs : List D} {P : List D → Prop}, (∀ x ∈ xs, ∀ P, (∀ a, Good a → P [f a]) → one x P) → (∀ as : List α, as.length = xs.length → (∀ a ∈ as, Good a) → P (as.map f)) → compR one xs P
  | [], P, _, h => h [] rfl (fun _ z => by cases z)
  | x :: xs, P, k, h => k x List.mem_cons_self _ fun a ha => compR_dem f Good (fun y hy => k y (List.mem_cons_of_mem _ hy)) fun as hl hg => h (a :: as) (by simp [hl]) fun b hb => by
      rcases List.mem_cons.mp hb with rfl | hb
      · exact ha
      · exact hg b hb
theorem cmp_q {n : Nat} (a b : Rat) : Cmp (n + 1) (qD a) (qD b) := by
  unfold qD
  simp only [Cmp]
  intro i x y h1 h2
  match i with
  | 0 => simp at h1 h2; subst h1 h2; cases n <;> simp [Cmp]
  | 1 => simp at h1 h2; subst h1 h2; cases n <;> simp [Cmp]
  | i + 2 => simp at h1
theorem cmp_qs {n : Nat} (a b : List Rat) : Cmp (n + 2) (.lst (a.map qD)) (.lst (b.map qD)) := by
  simp only [Cmp]
  intro i x y h1 h2
  rw [List.getElem?_map] at h1 h2
  cases q1 : a[i]? with
  | none => rw [q1] at h1; cases h1
  | some u =>
    cases q2 : b[i]? with
    | none => rw [q2] at h2; cases h2
    | some v =>
      rw [q1] at h1; rw [q2] at h2
      cases h1; cases h2
      exact cmp_q u v
theorem cmp_nil {n : Nat} (a : List D) : Cmp (n + 1) (.lst a) (.lst []) := by
  simp only [Cmp]
  intro i x y h1 h2
  simp at h2
theorem deq_nil (a : List Rat) : deq (.lst (a.map qD)) (.lst []) = decide (a = []) := by
  cases a <;> simp [deq, deqs]

theorem sl1 : (1000 : Nat) < sizeLine := by decide
theorem lfr {i m : Int} (hm : 0 < m) : 0 ≤ i.fmod m ∧ i.fmod m < m := by
  rw [Int.fmod_eq_emod_of_nonneg _ (by omega)]
  exact ⟨Int.emod_nonneg _ (by omega), Int.emod_lt_of_pos _ hm⟩
theorem deq_int (i j : Int) : deq (.int i) (.int j) = decide (i = j) := by
  simp only [deq]
  by_cases h : i = j <;> simp [h]
theorem fmod_nat {i : Int} {n : Nat} (h : 0 < n) : ∃ k : Nat, i.fmod (n : Int) = (k : Int) ∧ k < n := by
  have := lfr (i := i) (m := (n : Int)) (by omega)
  exact ⟨(i.fmod (n : Int)).toNat, by omega, by omega⟩
theorem fdiv_exact {x p h : Int} (p0 : p ≠ 0) (e : x = p * h) : x.fdiv p = h := by
  rw [e, Int.mul_comm, Int.mul_fdiv_cancel _ p0]

theorem l_law_cell {c : Cls} {ds P E} (h : sp_law_cell c ds P E) : ds.length = 2 := by obtain ⟨_, _, rfl, _⟩ := h; rfl
theorem l_law_divisor {c : Cls} {ds P E} (h : sp_law_divisor c ds P E) : ds.length = 2 := by obtain ⟨_, _, rfl, _⟩ := h; rfl
theorem l_law_low {c : Cls} {ds P E} (h : sp_law_low c ds P E) : ds.length = 2 := by obtain ⟨_, _, rfl, _⟩ := h; rfl
theorem l_law_is {c : Cls} {ds P E} (h : sp_law_is c ds P E) : ds.length = 2 := by obtain ⟨_, _, rfl, _⟩ := h; rfl
theorem l_law {c : Cls} {ds P E} (h : sp_law c ds P E) : ds.length = 1 := by obtain ⟨_, rfl, _⟩ := h; rfl
theorem r_law_cell {K : PySem.W.Frag} {c : Cls} {ds Q Ex} (h : sp_law_cell c ds Q Ex) : rd_law_cell K c (fin Q) (start3 3 ds) fun _ => Ex := by
  obtain ⟨ns, k, rfl, hl, hk, h⟩ := h
  show if decide ((k : Int) < ((ns.map D.int).length : Int)) = true then _ else _
  rw [List.length_map]
  by_cases hlt : k < ns.length
  · rw [if_pos (by simpa using hlt)]
    refine ⟨.int ns[k], atI_nat (by simp [hlt]), ?_⟩
    unfold cellV at h
    rw [dif_pos hlt] at h
    exact h
  · rw [if_neg (by simpa using hlt)]
    unfold cellV at h
    rw [dif_neg hlt] at h
    have bk : bln (k : Int) ≤ 10 := bln_le (by simp only [Int.natAbs_natCast]; omega)
    refine ⟨.inr (.inl (bln_le (by decide))), ?_⟩
    show if decide ((0 : Int) < ((ns.map D.int).length : Int)) = true then _ else _
    rw [List.length_map]
    have fin2 : ∀ m : Int, m.natAbs < 2 ^ 40 → Q (.int ((m * m).fmod 2147483629)) → MulC m m ∧ (2147483629 : Int) ≠ 0 ∧ Q (.int ((m * m).fmod 2147483629)) := fun m hm hq =>
      ⟨.inl (Nat.le_trans (bln_le hm) (by decide)), by decide, hq⟩
    by_cases he : ns = []
    · subst he
      rw [if_neg (by simp)]
      rw [if_pos rfl] at h
      exact fin2 _ (by omega) h
    · have hp : 0 < ns.length := (by cases ns with | nil => exact absurd rfl he | cons _ _ => exact Nat.succ_pos _)
      rw [if_pos (by simpa using hp)]
      rw [if_neg he] at h
      refine ⟨.inr (.inl (bln_le (by decide))), show ((ns.map D.int).length : Int) ≠ 0 by rw [List.length_map]; omega, ?_⟩
      have hm : ((k : Int) * 7).fmod ((ns.map D.int).length : Int) = ((k * 7 % ns.length : Nat) : Int) := by
        rw [List.length_map, Int.fmod_eq_emod_of_nonneg _ (by omega), Int.natCast_emod, Int.natCast_mul]
        rfl
      dsimp only [cSeq, cNext, cC, cV, cB, cT, cAnd, cOr, cNot, cAndV, cOrV, cNotV, cIf, cNil, cCons, cTup, fLst, cOf, cDrop, cRet, cRetN, cIfS, cSet, cSetF, hName, hNil, hCons, hTup, cAsg, cPar, cCall, cU, cCB, gNeg, gAdd, gSub, gMul, gDiv, gMod, gPow, gLt, gLe, gGt, gGe, gIs, gIsN, gEq, gNe, gIx, wI, wI0, u_abs, u_len, u_max, u_min, cRaise, cTry, cTryA, cIsi, cIsx, List.length, List.set_cons_zero, List.set_cons_succ, List.getElem?_cons_zero, List.getElem?_cons_succ, isNon, fCB, n_list, u_tuple, oNo, oIs, fSl, fRev, cPeek, cPeekT, cIxO, cOw, w_append, w_insert, fCat, gIn, cChain, cCallN, u_int, n_sorted, i_enumerate, cIsv, cIst, iL, cForI, frzG, frzS, cYes, List.map, List.append, List.cons_append, List.nil_append]
      rw [hm]
      have hlt2 : k * 7 % ns.length < ns.length := Nat.mod_lt _ hp
      refine ⟨.int (ns.getD (k * 7 % ns.length) 0), atI_nat (by simp [List.getElem?_map, List.getD_eq_getElem?_getD, hlt2]), ?_⟩
      refine ⟨.inr (.inl (bln_le (by decide))), .inr (.inl (bln_le (by decide))), by decide, ?_⟩
      refine fin2 _ ?_ h
      have h1 := fmod_natAbs_lt (a := ns.getD (k * 7 % ns.length) 0 * 48271 + (k : Int) * 7919) (b := 2147483647) (by decide)
      exact Nat.lt_trans h1 (by decide)
theorem isi_tup (xs : List D) : isiB (.tup xs) "tuple" = some true := by unfold isiB tyD; show PySem.W.kitOne [] _ _ = _; decide +kernel
theorem isi_non : isiB .non "tuple" = some false := by unfold isiB tyD; show PySem.W.kitOne [] _ _ = _; decide +kernel
theorem isi_int (i : Int) : isiB (.int i) "int" = some true ∧ isiB (.int i) "bool" = some false := ⟨by unfold isiB tyD; show PySem.W.kitOne [] _ _ = _; decide +kernel, by unfold isiB tyD; show PySem.W.kitOne [] _ _ = _; decide +kernel⟩
theorem rng_get {n : Nat} {f : Nat → D} {i : Nat} (h : i < n) : ((List.range n).map f)[i]? = some (f i) := by simp [h]
theorem rng_at {n : Nat} {f : Nat → D} {i : Nat} (h : i < n) : atI ((List.range n).map f) (i : Int) = some (f i) := atI_nat (rng_get h)
theorem zip_rng {n : Nat} (f g : Nat → D) : zipD ((List.range n).map f) ((List.range n).map g) = (List.range n).map fun i => .tup [f i, g i] := by
  unfold zipD
  apply List.ext_getElem
  · simp
  · intro i h1 h2; simp
theorem en_rng {n : Nat} (f : Nat → D) : enD 0 ((List.range n).map f) = (List.range n).map fun i => .tup [.int (i : Nat), f i] := by
  apply List.ext_getElem?
  intro i
  rw [enD_get]
  by_cases h : i < n
  · rw [rng_get h, rng_get h]; simp
  · simp [h]
theorem compR_idx {one : D → (List D → Prop) → Prop} {f g : Nat → D} : ∀ {is : List Nat} {P : List D → Prop}, (∀ i ∈ is, ∀ P : List D → Prop, P [g i] → one (f i) P) → P (is.map g) → compR one (is.map f) P
  | [], _, _, h => h
  | i :: is, P, k, h => k i List.mem_cons_self _ (compR_idx (fun y hy => k y (List.mem_cons_of_mem _ hy)) h)
theorem compR_rng {one : D → (List D → Prop) → Prop} {f g : Nat → D} {n : Nat} {P : List D → Prop} (k : ∀ i, i < n → ∀ P : List D → Prop, P [g i] → one (f i) P) (h : P ((List.range n).map g)) : compR one ((List.range n).map f) P :=
  compR_idx (fun i hi => k i (List.mem_range.mp hi)) h
theorem rowD_congr {m : Nat} {f g : Nat → Int} (h : ∀ j, j < m → f j = g j) : rowD m f = rowD m g := by
  unfold rowD
  congr 1
  exact List.map_congr_left fun j hj => by rw [h j (List.mem_range.mp hj)]
theorem tabD_congr {n m : Nat} {a b : Mx} (h : ∀ i j, i < n → j < m → a i j = b i j) : tabD n m a = tabD n m b := by
  unfold tabD
  congr 1
  exact List.map_congr_left fun i hi => rowD_congr fun j hj => h i j (List.mem_range.mp hi) hj
theorem l_whole_row {c : Cls} {ds P E} (h : sp_whole_row c ds P E) : ds.length = 1 := by obtain ⟨_, _, rfl, _⟩ := h; rfl
theorem l_without {c : Cls} {ds P E} (h : sp_without c ds P E) : ds.length = 4 := by obtain ⟨_, _, _, _, _, _, rfl, _⟩ := h; rfl
theorem l_cleared {c : Cls} {ds P E} (h : sp_cleared c ds P E) : ds.length = 3 := by obtain ⟨_, _, _, _, _, _, rfl, _⟩ := h; rfl
theorem l_exchanged {c : Cls} {ds P E} (h : sp_exchanged c ds P E) : ds.length = 3 := by obtain ⟨_, _, _, _, _, rfl, _⟩ := h; rfl
theorem l_led {c : Cls} {ds P E} (h : sp_led c ds P E) : ds.length = 2 := by obtain ⟨_, _, _, _, rfl, _⟩ := h; rfl
theorem l_solved {c : Cls} {ds P E} (h : sp_solved c ds P E) : ds.length = 2 := by obtain ⟨_, _, _, ⟨rfl, _⟩, _⟩ := h; rfl
theorem r_without {K : PySem.W.Frag} {c : Cls} {ds Q Ex} (h : sp_without c ds Q Ex) : rd_without K c (fin Q) (start3 4 ds) fun _ => Ex := by
  obtain ⟨m, k, f, g, q, p, rfl, hk, p0, bp, bf, bg, he, h⟩ := h
  show compR _ (zipD ((List.range m).map fun j => .int (f j)) ((List.range m).map fun j => .int (g j))) _
  rw [zip_rng]
  refine compR_rng (g := fun j => .int (q j)) (fun j hj P hP => ?_) h
  have b1 := bg k; have b2 := bf j; have b3 := bf k; have b4 := bg j
  refine ⟨rfl, rfl, .int (g k), rng_at hk, .inr (.inr (by omega)), .int (f k), rng_at hk, .inr (.inr (by omega)), ⟨p0, bp⟩, ?_⟩
  show P [.int ((g k * f j - f k * g j).fdiv p)]
  rw [fdiv_exact p0 (he j hj)]; exact hP
theorem r_cleared {K : PySem.W.Frag} {c : Cls} {ds Q Ex} (h : sp_cleared c ds Q Ex) : rd_cleared K c (fin Q) (start3 4 ds) fun _ => Ex := by
  obtain ⟨a, b, n, m, k, p, rfl, hk, hkm, p0, bp, ba, h1, h2, h⟩ := h
  refine ⟨rowD m (a k), rng_at hk, ?_⟩
  show compR _ (enD 0 ((List.range n).map fun i => rowD m (a i))) _
  rw [en_rng]
  refine compR_rng (g := fun i => rowD m (b i)) (fun i hi P hP => ?_) h
  refine ⟨rfl, rfl, trivial, ?_⟩
  rw [deq_int]
  by_cases e : i = k
  · subst e
    rw [decide_eq_true rfl]
    have : rowD m (b i) = rowD m (a i) := rowD_congr h1
    rw [this] at hP; exact hP
  · rw [decide_eq_false (by omega)]
    let cut : (Nat → Int) → Nat → Int := fun f j => if j < m then f j else 0
    have ec : ∀ f, rowD m f = rowD m (cut f) := fun f => rowD_congr fun j hj => by show _ = if j < m then f j else 0; rw [if_pos hj]
    have bc : ∀ i, i < n → ∀ j, bln (cut (a i) j) ≤ 7000 := fun i hi j => by
      show bln (if j < m then a i j else 0) ≤ 7000
      split
      · exact ba i j hi (by assumption)
      · exact Nat.zero_le _
    have cv : ∀ f j, j < m → cut f j = f j := fun f j hj => by show (if j < m then f j else 0) = _; rw [if_pos hj]
    refine ⟨m, k, cut (a i), cut (a k), b i, p, by rw [← ec, ← ec], hkm, p0, bp, bc i hi, bc k hk, fun j hj => ?_, hP⟩
    rw [cv _ _ hj, cv _ _ hj, cv _ _ hkm, cv _ _ hkm]
    exact h2 i j hi hj e
theorem set_rng {n : Nat} (f : Nat → D) {k s : Nat} (hk : k < n) (hs : s < n) : (((List.range n).map f).set k (f s)).set s (f k) = (List.range n).map fun i => f (swp k s i) := by
  apply List.ext_getElem
  · simp
  · intro i h1 h2
    simp only [List.getElem_set, List.getElem_map, List.getElem_range]
    unfold swp
    by_cases e1 : s = i
    · subst e1
      by_cases e2 : k = s
      · subst e2; simp
      · rw [if_pos rfl, if_neg (by omega), if_pos rfl]
    · rw [if_neg e1]
      by_cases e2 : k = i
      · subst e2; rw [if_pos rfl, if_pos rfl]
      · rw [if_neg e2, if_neg (by omega), if_neg (by omega)]
theorem ixN_nat {n k : Nat} (h : k < n) : ixN n (k : Int) = some k := by
  unfold ixN
  rw [if_pos (by omega), if_pos (by omega)]; simp
theorem r_exchanged {K : PySem.W.Frag} {c : Cls} {ds Q Ex} (h : sp_exchanged c ds Q Ex) : rd_exchanged K c (fin Q) (start3 4 ds) fun _ => Ex := by
  obtain ⟨a, n, m, k, s, rfl, hk, hs, h⟩ := h
  refine ⟨rowD m (a s), rng_at hs, ⟨_, rfl⟩, k, ixN_nat (by simp [hk]), rowD m (a k), rng_at hk, ⟨_, rfl⟩, s, ixN_nat (by simp [hs]), ?_⟩
  have e := set_rng (fun i => rowD m (a i)) hk hs
  show Q (.lst ((((List.range n).map fun i => rowD m (a i)).set k (rowD m (a s))).set s (rowD m (a k))))
  rw [e]; exact h
theorem r_led {K : PySem.W.Frag} {c : Cls} {ds Q Ex} (h : sp_led c ds Q Ex) : rd_led K c (fin Q) (start3 3 ds) fun _ => Ex := by
  obtain ⟨a, n, m, k, rfl, hn, hk, hm, h1, h2⟩ := h
  have el : ((List.range n).map fun i => rowD m (a i)).length = n := by simp
  show ((-(2 ^ 62) : Int) ≤ (k : Int) ∧ (k : Int) < 2 ^ 62 ∧ (-(2 ^ 62) : Int) ≤ ((((List.range n).map fun i => rowD m (a i)).length : Nat) : Int) ∧ ((((List.range n).map fun i => rowD m (a i)).length : Nat) : Int) < 2 ^ 62) ∧ RngW (k : Int) (((((List.range n).map fun i => rowD m (a i)).length : Nat) : Int) - (k : Int)).toNat _ _ _ _ _
  rw [el, show ((n : Int) - (k : Int)).toNat = n - k by omega]
  refine ⟨⟨by omega, by omega, by omega, by omega⟩, fun i Γ => ∃ y : Slot, Γ = [.pu (tabD n m a), .pu (.int k), y] ∧ ∀ s, k ≤ s → s < k + i → a s k = 0, ⟨_, rfl, fun s hs hs' => by omega⟩, ?_, ?_⟩
  · rintro i _ hi ⟨y, rfl, hz⟩
    have e0 : (k : Int) + (i : Int) = ((k + i : Nat) : Int) := by omega
    have hlt : k + i < n := by omega
    refine ⟨rowD m (a (k + i)), ?_, .int (a (k + i) k), rng_at hm, trivial, ?_⟩
    · show atI ((List.range n).map fun i => rowD m (a i)) ((k : Int) + (i : Int)) = _
      rw [e0]; exact rng_at hlt
    rw [deq_int]
    by_cases ez : a (k + i) k = 0
    · rw [decide_eq_true ez]
      refine ⟨_, rfl, fun s hs hs' => ?_⟩
      by_cases es : s = k + i
      · rw [es]; exact ez
      · exact hz s hs (by omega)
    · rw [decide_eq_false ez]
      refine ⟨a, n, m, k, k + i, ?_, hk, hlt, h1 _ (by omega) hlt ez⟩
      show [tabD n m a, .int k, .int ((k : Int) + (i : Int))] = _
      rw [e0]
  · rintro _ ⟨y, rfl, hz⟩
    exact ⟨by show (1 : Nat) ≤ sizeLine; decide, h2 fun s hs hs' => hz s hs (by omega)⟩

theorem numDen' (q : Rat) : ((q.num : Int) : Rat) = q * ((q.den : Int) : Rat) ∧ ((q.den : Int) : Rat) ≠ 0 := by
  have hd : ((q.den : Int) : Rat) ≠ 0 := by
    have := q.den_pos
    exact_mod_cast (show (q.den : Int) ≠ 0 by omega)
  have e : ((q.num : Int) : Rat) / ((q.den : Int) : Rat) = q := by
    have := Rat.num_divInt_den q
    rw [Rat.divInt_eq_div] at this
    exact this
  refine ⟨?_, hd⟩
  rw [Rat.div_def] at e
  have := congrArg (· * ((q.den : Int) : Rat)) e
  simp only [Rat.mul_assoc, Rat.inv_mul_cancel _ hd, Rat.mul_one] at this
  exact this
theorem lcm_step {μ d : Int} (hμ : 0 < μ) (hd : 0 < d) : (Int.gcd μ d : Int) ≠ 0 ∧ 0 < μ * d.fdiv (Int.gcd μ d : Int) ∧ μ ∣ μ * d.fdiv (Int.gcd μ d : Int) ∧ d ∣ μ * d.fdiv (Int.gcd μ d : Int) ∧ (d.fdiv (Int.gcd μ d : Int)).natAbs ≤ d.natAbs ∧ (Int.gcd μ d : Int).natAbs ≤ d.natAbs := by
  have g0 : Int.gcd μ d ≠ 0 := fun z => by have := (Int.gcd_eq_zero_iff.mp z).2; omega
  have gd : (Int.gcd μ d : Int) ∣ d := Int.gcd_dvd_right ..
  have gm : (Int.gcd μ d : Int) ∣ μ := Int.gcd_dvd_left ..
  have e := fdiv_mul_of_dvd gd
  obtain ⟨u, eu⟩ := gm
  have gp : (0 : Int) < (Int.gcd μ d : Int) := by omega
  generalize (Int.gcd μ d : Int) = g at *
  generalize d.fdiv g = t at *
  have tp : 0 < t := by
    rcases Int.lt_or_le 0 t with h | h
    · exact h
    · have := Int.mul_nonpos_of_nonneg_of_nonpos (by omega : 0 ≤ g) h
      omega
  refine ⟨by omega, Int.mul_pos hμ tp, ⟨t, rfl⟩, ⟨u, ?_⟩, ?_, ?_⟩
  · rw [eu, ← e]; ac_rfl
  · rw [← e, Int.natAbs_mul]; exact Nat.le_mul_of_pos_left _ (by omega)
  · rw [← e, Int.natAbs_mul]; exact Nat.le_mul_of_pos_right _ (by omega)
theorem r_whole_row {K : PySem.W.Frag} {c : Cls} {ds Q Ex} (h : sp_whole_row c ds Q Ex) : rd_whole_row K c (fin Q) (start3 3 ds) fun _ => Ex := by
  obtain ⟨m, f, rfl, hm, hz, h⟩ := h
  refine ⟨fun i Γ => ∃ (μ : Int) (y : Slot), Γ = [.pu (rowQ m f), .pu (.int μ), y] ∧ 0 < μ ∧ bln μ ≤ 250 * i + 1 ∧ ∀ j, j < i → j < m → ((f j).den : Int) ∣ μ, ⟨1, _, rfl, by decide, by decide, fun j hj => by omega⟩, ?_, ?_⟩
  · rintro i d _ hi ⟨μ, y, rfl, hμ, bμ, hd⟩
    have him : i < m := by
      have := (List.getElem?_eq_some_iff.mp hi).1
      simpa using this
    rw [rng_get him] at hi
    cases hi
    have dp : (0 : Int) < (f i).den := by have := (f i).den_pos; omega
    obtain ⟨g0, p1, p2, p3, p4, p5⟩ := lcm_step hμ dp
    have zi := (hz i him).2
    have b4 := Nat.le_trans (bln_mono p4) zi
    have b5 := Nat.le_trans (bln_mono p5) zi
    have bm := bln_mul_le μ ((f i).den.cast (R := Int) |>.fdiv (Int.gcd μ (f i).den : Int))
    refine ⟨_, at1, _, at1, μ, (f i).den, rfl, ⟨g0, by omega⟩, .inr (.inr (by omega)), _, _, rfl, p1, by omega, fun j hj hjm => ?_⟩
    by_cases e : j = i
    · subst e; exact p3
    · exact Int.dvd_trans (hd j (by omega) hjm) p2
  · rintro _ ⟨μ, y, rfl, hμ, bμ, hd⟩
    have el : ((List.range m).map fun j => qD (f j)).length = m := by simp
    rw [el] at bμ hd
    let g : Nat → Int := fun j => if j < m then (f j).num * μ.fdiv ((f j).den : Int) else 0
    have gv : ∀ j, j < m → g j = (f j).num * μ.fdiv ((f j).den : Int) := fun j hj => by show (if j < m then _ else _) = _; rw [if_pos hj]
    have bt : ∀ j, j < m → bln (μ.fdiv ((f j).den : Int)) ≤ bln μ := fun j hj => by
      refine bln_mono ?_
      have e := congrArg Int.natAbs (fdiv_mul_of_dvd (hd j hj hj))
      rw [Int.natAbs_mul] at e
      rw [← e]
      exact Nat.le_mul_of_pos_left _ (by have := (f j).den_pos; omega)
    show compR _ ((List.range m).map fun j => qD (f j)) _
    refine compR_rng (g := fun j => .int (g j)) (fun j hj P hP => ?_) (h μ g hμ (fun j hj => ?_) fun j => ?_)
    · have z := hz j hj
      have b := bt j hj
      refine ⟨_, at0, _, at1, ⟨by have := (f j).den_pos; omega, by have := z.2; omega⟩, .inr (.inr (by have := z.1; omega)), ?_⟩
      show P [.int ((f j).num * μ.fdiv ((f j).den : Int))]
      rw [← gv j hj]; exact hP
    · rw [gv j hj]
      have e := fdiv_mul_of_dvd (hd j hj hj)
      obtain ⟨n1, n2⟩ := numDen' (f j)
      have e' : (μ : Rat) = ((f j).den : Int) * (μ.fdiv ((f j).den : Int) : Int) := by exact_mod_cast e.symm
      rw [Rat.intCast_mul, n1, e']
      grind
    · by_cases hj : j < m
      · rw [gv j hj]
        have := bln_mul_le (f j).num (μ.fdiv ((f j).den : Int))
        have := bt j hj
        have := (hz j hj).1
        omega
      · show bln (if j < m then _ else 0) ≤ _
        rw [if_neg hj]; exact Nat.zero_le _
theorem compR_rgD {α : Type} [Inhabited α] {one : D → (List D → Prop) → Prop} {f : Nat → D} (F : Nat → α → D) (Good : Nat → α → Prop) : ∀ {n s : Nat} {P : List D → Prop}, (∀ i, s ≤ i → i < s + n → ∀ P : List D → Prop, (∀ a, Good i a → P [F i a]) → one (f i) P) → (∀ as : Nat → α, (∀ i, s ≤ i → i < s + n → Good i (as i)) → P ((List.range' s n).map fun i => F i (as i))) → compR one ((List.range' s n).map f) P
  | 0, s, P, _, h => h (fun _ => default) fun i h1 h2 => by omega
  | n + 1, s, P, k, h => by
    rw [List.range'_succ]
    refine k s (by omega) (by omega) _ fun a ha => ?_
    refine compR_rgD F Good (fun i h1 h2 => k i (by omega) (by omega)) fun as has => ?_
    have := h (fun i => if i = s then a else as i) fun i h1 h2 => by
      by_cases e : i = s
      · subst e; simpa using ha
      · simp only [if_neg e]; exact has i (by omega) (by omega)
    rw [List.range'_succ, List.map_cons, if_pos rfl] at this
    have e : (List.range' (s + 1) n).map (fun i => F i (if i = s then a else as i)) = (List.range' (s + 1) n).map fun i => F i (as i) := List.map_congr_left fun i hi => by
      have := List.mem_range'_1.mp hi
      rw [if_neg (by omega)]
    rw [e] at this
    exact this
theorem compR_rngD {α : Type} [Inhabited α] {one : D → (List D → Prop) → Prop} {f : Nat → D} (F : Nat → α → D) (Good : Nat → α → Prop) {n : Nat} {P : List D → Prop} (k : ∀ i, i < n → ∀ P : List D → Prop, (∀ a, Good i a → P [F i a]) → one (f i) P) (h : ∀ as : Nat → α, (∀ i, i < n → Good i (as i)) → P ((List.range n).map fun i => F i (as i))) : compR one ((List.range n).map f) P := by
  rw [List.range_eq_range']
  refine compR_rgD F Good (fun i _ h2 => k i (by omega)) fun as has => ?_
  rw [← List.range_eq_range']
  exact h as fun i hi => has i (by omega) (by omega)
theorem bln_m2 {B : Nat} {a : Mx} (h : BkM B a) (p q x y : Nat) : bln (m2 a p q x y) ≤ 2 * B + 1 := by
  unfold m2
  have h1 := bln_mul_le (a p x) (a q y)
  have h2 := bln_mul_le (a p y) (a q x)
  have h3 := bln_sub_le (a p x * a q y) (a p y * a q x)
  have := h p x; have := h q y; have := h p y; have := h q x
  omega
theorem bln_m3 {B : Nat} {a : Mx} (h : BkM B a) (p q r x y z : Nat) : bln (m3 a p q r x y z) ≤ 3 * B + 3 := by
  unfold m3
  have h1 := bln_mul_le (a p x) (m2 a q r y z)
  have h2 := bln_mul_le (a p y) (m2 a q r x z)
  have h3 := bln_mul_le (a p z) (m2 a q r x y)
  have h4 := bln_sub_le (a p x * m2 a q r y z) (a p y * m2 a q r x z)
  have h5 := bln_add_le (a p x * m2 a q r y z - a p y * m2 a q r x z) (a p z * m2 a q r x y)
  have := h p x; have := h p y; have := h p z
  have := bln_m2 h q r y z; have := bln_m2 h q r x z; have := bln_m2 h q r x y
  omega
theorem bln_m4 {B : Nat} {a : Mx} (h : BkM B a) (p q r s x y z w : Nat) : bln (m4 a p q r s x y z w) ≤ 4 * B + 6 := by
  unfold m4
  have h1 := bln_mul_le (a p x) (m3 a q r s y z w)
  have h2 := bln_mul_le (a p y) (m3 a q r s x z w)
  have h3 := bln_mul_le (a p z) (m3 a q r s x y w)
  have h3' := bln_mul_le (a p w) (m3 a q r s x y z)
  have h4 := bln_sub_le (a p x * m3 a q r s y z w) (a p y * m3 a q r s x z w)
  have h5 := bln_add_le (a p x * m3 a q r s y z w - a p y * m3 a q r s x z w) (a p z * m3 a q r s x y w)
  have h6 := bln_sub_le (a p x * m3 a q r s y z w - a p y * m3 a q r s x z w + a p z * m3 a q r s x y w) (a p w * m3 a q r s x y z)
  have := h p x; have := h p y; have := h p z; have := h p w
  have := bln_m3 h q r s y z w; have := bln_m3 h q r s x z w; have := bln_m3 h q r s x y w; have := bln_m3 h q r s x y z
  omega
theorem bln_pv {B : Nat} {a : Mx} (h : BkM B a) (k : Nat) : bln (pv k a) ≤ 4 * B + 6 := by
  match k with
  | 0 => exact Nat.le_trans (bln_le (k := 1) (show (1 : Int).natAbs < 2 ^ 1 by decide)) (by omega)
  | 1 => exact Nat.le_trans (h 0 0) (by omega)
  | 2 => exact Nat.le_trans (bln_m2 h ..) (by omega)
  | 3 => exact Nat.le_trans (bln_m3 h ..) (by omega)
  | k + 4 => exact bln_m4 h ..
theorem bln_tk {B : Nat} {a : Mx} (h : BkM B a) (k i j : Nat) : bln (Tk k a i j) ≤ 4 * B + 6 := by
  match k with
  | 0 => exact Nat.le_trans (h i j) (by omega)
  | 1 =>
    match i with
    | 0 => exact Nat.le_trans (h 0 j) (by omega)
    | i + 1 => exact Nat.le_trans (bln_m2 h ..) (by omega)
  | 2 =>
    match i with
    | 0 => exact Nat.le_trans (bln_m2 h ..) (by omega)
    | 1 => exact Nat.le_trans (bln_m2 h ..) (by omega)
    | i + 2 => exact Nat.le_trans (bln_m3 h ..) (by omega)
  | 3 =>
    match i with
    | 0 => exact Nat.le_trans (bln_m3 h ..) (by omega)
    | 1 => exact Nat.le_trans (bln_m3 h ..) (by omega)
    | 2 => exact Nat.le_trans (bln_m3 h ..) (by omega)
    | i + 3 => exact Nat.le_trans (bln_m4 h ..) (by omega)
  | k + 4 =>
    match i with
    | 0 => exact bln_m4 h ..
    | 1 => exact bln_m4 h ..
    | 2 => exact bln_m4 h ..
    | i + 3 => exact bln_m4 h ..

theorem at_end {n : Nat} {f : Nat → D} : atI ((List.range (n + 1)).map f) (-1) = some (f n) := by
  have e : ixN ((List.range (n + 1)).map f).length (-1) = some n := by
    rw [List.length_map, List.length_range]
    unfold ixN
    rw [if_neg (by decide), if_pos (by omega)]
    congr 1; omega
  unfold atI
  rw [e]
  exact rng_get (by omega)
theorem r_solved {K : PySem.W.Frag} {c : Cls} {ds Q Ex} (h : sp_solved c ds Q Ex) : rd_solved K c (fin Q) (start3 5 ds) fun _ => Ex := by
  obtain ⟨n, A, x, ⟨rfl, hn, hz⟩, hE, hP⟩ := h
  have s1 := sl1
  show compR _ (zipD ((List.range n).map fun i => rowQ n (A i)) ((List.range n).map fun i => qD (A i n))) _
  rw [zip_rng]
  refine compR_rngD (α := Nat → Int) (fun _ g => rowD (n + 1) g) (fun i g => (∀ j, bln (g j) ≤ 1600) ∧ ∃ μ : Int, 0 < μ ∧ ∀ j, j < n + 1 → (g j : Rat) = (μ : Rat) * A i j) (fun i hi P hP => ?_) (fun as has => ?_)
  · refine ⟨rfl, rfl, by show (1 : Nat) ≤ sizeLine; decide, ?_, n + 1, A i, ?_, by omega, fun j hj => hz i j hi (by omega), fun μ g h0 h1 h2 => hP g ⟨h2, μ, h0, h1⟩⟩
    · show ((List.range n).map fun j => qD (A i j)).length + 1 ≤ sizeLine
      simp only [List.length_map, List.length_range]; omega
    · show [D.lst (((List.range n).map fun j => qD (A i j)) ++ [qD (A i n)])] = [rowQ (n + 1) (A i)]
      unfold rowQ
      rw [List.range_succ, List.map_append]; rfl
  change rd_solved_1 K c (fin Q) [.pu (tabQ n n A), .pu (rowQ n fun i => A i n), .pu (.lst ((List.range n).map fun i => rowD (n + 1) (as i))), .no, .no] fun _ => Ex
  let a : Mx := fun i j => if i < n then as i j else 0
  have av : ∀ i j, i < n → a i j = as i j := fun i j hi => by show (if i < n then as i j else 0) = _; rw [if_pos hi]
  have et : D.lst ((List.range n).map fun i => rowD (n + 1) (as i)) = tabD n (n + 1) a := (tabD_congr (a := a) (b := as) fun i j hi _ => av i j hi).symm
  rw [et]
  have ba : BkM 1600 a := fun i j => by
    by_cases hi : i < n
    · rw [av i j hi]; exact (has i hi).1 j
    · show bln (if i < n then as i j else 0) ≤ _
      rw [if_neg hi]; exact Nat.zero_le _
  have hμ : ∃ μ : Nat → Rat, ∀ i, i < n → μ i ≠ 0 ∧ ∀ j, j < n + 1 → (a i j : Rat) = μ i * A i j := by
    refine ⟨fun i => if h : i < n then ((has i h).2.choose : Int) else 1, fun i hi => ?_⟩
    simp only [dif_pos hi]
    have sp := (has i hi).2.choose_spec
    refine ⟨?_, fun j hj => by rw [av i j hi]; exact sp.2 j hj⟩
    have := sp.1
    intro z
    have : (has i hi).2.choose = 0 := by exact_mod_cast z
    omega
  obtain ⟨μ, hμ⟩ := hμ
  clear_value a
  have ez : pq n A = 0 ↔ pv n a = 0 := by
    have e := pq_scale hn A (qM a) μ (fun i hi j hj => (hμ i hi).2 j (by omega)) fun i hi => (hμ i hi).1
    rw [← e, ← pv_q]
    exact ⟨fun z => by exact_mod_cast z, fun z => by rw [z]; rfl⟩
  have es : ∀ (f g : Nat → Rat) (t : Rat) m, (∀ j, j < m → f j = t * g j) → sumX m f = t * sumX m g := by
    intro f g t m
    induction m with
    | zero => intro _; simp only [sumX]; grind
    | succ m ih =>
      intro hfg
      simp only [sumX]
      rw [ih fun j hj => hfg j (by omega), hfg m (by omega)]
      grind
  have hc : Slv n A x → ∀ r, r < n → (a r n : Rat) = sumX n fun j => (a r j : Rat) * x j := by
    intro hs r hr
    rw [(hμ r hr).2 n (by omega), hs r hr, ← es (fun j => (a r j : Rat) * x j) (fun j => A r j * x j) (μ r) n fun j hj => ?_]
    rw [(hμ r hr).2 j (by omega)]; grind
  have el : ((List.range n).map fun i => rowD (n + 1) (a i)).length = n := by simp
  show ((-(2 ^ 62) : Int) ≤ ((((List.range n).map fun i => rowD (n + 1) (a i)).length : Nat) : Int) ∧ _) ∧ RngW 0 (Int.toNat ((((List.range n).map fun i => rowD (n + 1) (a i)).length : Nat) : Int)) _ _ _ _ _
  rw [el, Int.toNat_natCast]
  refine ⟨⟨by omega, by omega⟩, fun k Γ => ∃ (b : Mx) (y : Slot), Γ = [.pu (tabQ n n A), .pu (rowQ n fun i => A i n), .pu (tabD n (n + 1) (Tk k b)), .pu (.int (pv k b)), y] ∧ BkM 1600 b ∧ (pv n b = 0 ↔ pv n a = 0) ∧ pv k b ≠ 0 ∧ (Slv n A x → ∀ r, r < n → (b r n : Rat) = sumX n fun j => (b r j : Rat) * x j), ⟨a, _, rfl, ba, Iff.rfl, show (1 : Int) ≠ 0 by decide, hc⟩, ?_, ?_⟩
  · rintro k _ hk ⟨b, y, rfl, bb, hb, pk, hcb⟩
    have e0 : (0 + (k : Int)) = ((k : Nat) : Int) := by omega
    refine ⟨Tk k b, n, n + 1, k, ?_, by omega, hk, by omega, fun s hs hsn hne => ?_, fun hall => ?_⟩
    · show [tabD n (n + 1) (Tk k b), .int (0 + (k : Int))] = _
      rw [e0]
    · have k4 : k < 4 := by omega
      have ebt : swM k s (Tk k b) = Tk k (swM k s b) := by
        funext i j
        rw [tk_swap k4 hs]; rfl
      have epv := pv_swap_low k4 hs b
      have ept : Tk k (swM k s b) k k ≠ 0 := by
        rw [← ebt]
        show Tk k b (swp k s k) k ≠ 0
        unfold swp; rw [if_pos rfl]; exact hne
      have bb' : BkM 1600 (swM k s b) := fun i j => bb _ _
      have epn := pv_swap hn hs hsn b
      have hcs : Slv n A x → ∀ r, r < n → (swM k s b r n : Rat) = sumX n fun j => (swM k s b r j : Rat) * x j := fun hv r hr => by
        refine hcb hv (swp k s r) ?_
        unfold swp
        split
        · exact hsn
        · split <;> omega
      rw [ebt]
      have hnx := pv_next k4 (swM k s b)
      refine ⟨Tk k (swM k s b), Tk (k + 1) (swM k s b), n, n + 1, k, pv k b, ?_, hk, by omega, pk, Nat.le_trans (bln_pv bb k) (by decide), fun i j _ _ => Nat.le_trans (bln_tk bb' k i j) (by decide), fun j _ => step_own k4 _ j, fun i j hi _ hik => ?_, ?_⟩
      · show [_, D.int (0 + (k : Int)), _] = _
        rw [e0]
      · rw [← epv]; exact step_ok k4 (by omega) hik _ j
      · refine ⟨rowD (n + 1) (Tk (k + 1) (swM k s b) k), ?_, .int (Tk (k + 1) (swM k s b) k k), ?_, swM k s b, .pu (.int (0 + (k : Int))), ?_, bb', ?_, ?_, hcs⟩
        · show atI ((List.range n).map fun i => rowD (n + 1) (Tk (k + 1) (swM k s b) i)) (0 + (k : Int)) = _
          rw [e0]; exact rng_at hk
        · show atI ((List.range (n + 1)).map fun j => D.int (Tk (k + 1) (swM k s b) k j)) (0 + (k : Int)) = _
          rw [e0]; exact rng_at (by omega)
        · rw [step_own k4, hnx]; rfl
        · rcases epn with e | e <;> rw [e] <;> rw [← hb] <;> omega
        · rw [← hnx]; exact ept
    · exact hE (ez.mpr (hb.mp (singular hn hk b pk hall)))
  · rintro _ ⟨b, y, rfl, bb, hb, pk, hcb⟩
    have pn : pq n A ≠ 0 := fun z => pk (hb.mpr (ez.mp z))
    obtain ⟨hs, hP⟩ := hP pn
    show compR _ (enD 0 ((List.range n).map fun i => rowD (n + 1) (Tk n b i))) _
    rw [en_rng]
    refine compR_rng (g := fun i => qD (x i)) (fun i hi P hp => ?_) hP
    refine ⟨rfl, rfl, .int (Tk n b i n), at_end, .int (Tk n b i i), rng_at (by omega), Tk n b i n, Tk n b i i, rfl, Nat.le_trans (bln_tk bb n i n) (by decide), Nat.le_trans (bln_tk bb n i i) (by decide), ?_⟩
    have ed := tn_diag hn hi b
    rw [ed, if_neg pk]
    have ec := cramer hn hi b x (hcb hs)
    have p0 : ((pv n b : Int) : Rat) ≠ 0 := fun z => pk (by exact_mod_cast z)
    have : ((Tk n b i n : Int) : Rat) / ((pv n b : Int) : Rat) = x i := by
      rw [ec, Rat.div_def, Rat.mul_comm, ← Rat.mul_assoc, Rat.inv_mul_cancel _ p0, Rat.one_mul]
    rw [this]; exact hp

theorem cmp_rowQ {k n : Nat} (f g : Nat → Rat) : Cmp (k + 2) (rowQ n f) (rowQ n g) := by
  unfold rowQ
  simp only [Cmp]
  intro i x y h1 h2
  by_cases hi : i < n
  · rw [rng_get hi] at h1 h2
    cases h1; cases h2
    exact cmp_q _ _
  · simp [hi] at h1
theorem rowQ_congr {m : Nat} {f g : Nat → Rat} (h : ∀ j, j < m → f j = g j) : rowQ m f = rowQ m g := by
  unfold rowQ
  congr 1
  exact List.map_congr_left fun j hj => by rw [h j (List.mem_range.mp hj)]

theorem l_law_kind {c : Cls} {ds P E} (h : sp_law_kind c ds P E) : ds.length = 2 := by obtain ⟨_, _, ⟨rfl, _⟩, _⟩ := h; rfl
theorem l_law_leaning_row {c : Cls} {ds P E} (h : sp_law_leaning_row c ds P E) : ds.length = 4 := by obtain ⟨_, _, _, _, _, rfl, _⟩ := h; rfl
theorem l_law_diagonal {c : Cls} {ds P E} (h : sp_law_diagonal c ds P E) : ds.length = 2 := by obtain ⟨_, _, rfl, _⟩ := h; rfl
abbrev finR (Q : D → Prop) : End2 := { nx := fun _ => Q .non, rt := fun _ => False, rf := Q }
theorem nol_ints (n : Nat) (f : Nat → Int) : ∀ is : List Nat, nolDs (is.map fun j => D.int (f j))
  | [] => by simp [nolDs]
  | i :: is => by
    rw [List.map_cons]
    unfold nolDs
    exact ⟨by simp [nolD], nol_ints n f is⟩
theorem rep_rng (n : Nat) : (List.replicate n [D.int 0]).flatten = (List.range n).map fun _ => D.int 0 := by
  induction n with
  | zero => rfl
  | succ n ih => rw [List.replicate_succ', List.flatten_append, ih, List.range_succ, List.map_append]; simp
theorem sumI_congr {n : Nat} {f g : Nat → Int} (h : ∀ k, k < n → f k = g k) : sumI n f = sumI n g := by
  induction n with
  | zero => rfl
  | succ n ih =>
    show sumI n f + f n = sumI n g + g n
    rw [ih fun k hk => h k (by omega), h n (by omega)]
theorem r_law_leaning_row {K : PySem.W.Frag} {c : Cls} {ds Q Ex} (h : sp_law_leaning_row c ds Q Ex) : rd_law_leaning_row K c (finR Q) (start3 8 ds) fun _ => Ex := by
  obtain ⟨ns, n, t, a, b, rfl, hl, n0, n4, ba, bb, h⟩ := h
  have s1 := sl1
  have e1 : ((List.range n).map fun j => D.int (a 0 j)).length = n := by simp
  have e2 : ((List.range n).map fun i => rowD n (a i)).length = n := by simp
  refine ⟨by show (1 : Nat) ≤ sizeLine; decide, rowD n (a 0), rng_at (i := 0) n0, ?_⟩
  show ((-(2 ^ 63) : Int) ≤ ((((List.range n).map fun j => D.int (a 0 j)).length : Nat) : Int) ∧ ((((List.range n).map fun j => D.int (a 0 j)).length : Nat) : Int) < 2 ^ 63 ∧ 1 * (((((List.range n).map fun j => D.int (a 0 j)).length : Nat) : Int)).toNat ≤ sizeLine) ∧ rd_law_leaning_row_1 K c (finR Q) [.pu (.lst (ns.map .int)), .pu (tabD n n a), .pu (rowD n b), .pu (.int t), .ow (List.replicate (((((List.range n).map fun j => D.int (a 0 j)).length : Nat) : Int)).toNat [D.int 0]).flatten, .no, .no, .no] fun _ => Ex
  rw [e1, Int.toNat_natCast, rep_rng]
  refine ⟨⟨by omega, by omega, by omega⟩, ?_⟩
  show ((-(2 ^ 62) : Int) ≤ ((((List.range n).map fun i => rowD n (a i)).length : Nat) : Int) ∧ _) ∧ RngW 0 (Int.toNat ((((List.range n).map fun i => rowD n (a i)).length : Nat) : Int)) _ _ _ _ _
  rw [e2, Int.toNat_natCast]
  refine ⟨⟨by omega, by omega⟩, fun i Γ => ∃ (r : Nat → Int) (s : Int) (y z : Slot), Γ = [.pu (.lst (ns.map .int)), .pu (tabD n n a), .pu (rowD n b), .pu (.int t), .ow ((List.range n).map fun j => .int (r j)), .pu (.int s), y, z] ∧ LeanR i t a r ∧ (∀ j, bln (r j) ≤ 23 + i) ∧ bln s ≤ 23 + i, ⟨fun _ => 0, 0, _, _, rfl, ⟨fun _ => 0, fun j => rfl⟩, fun j => Nat.zero_le _, Nat.zero_le _⟩, ?_, ?_⟩
  · rintro i _ hi ⟨r, s, y, z, rfl, ⟨w, hw⟩, br, bs⟩
    have e0 : (0 + (i : Int)) = ((i : Nat) : Int) := by omega
    refine ⟨trivial, ?_⟩
    rw [deq_int]
    by_cases et : i = t
    · rw [decide_eq_true (show (0 + (i : Int)) = (t : Int) by omega)]
      refine ⟨r, s, _, _, rfl, ⟨w, fun j => ?_⟩, fun j => by have := br j; omega, by omega⟩
      show _ = sumI i (fun k => if k = t then 0 else w k * a k j) + (if i = t then 0 else w i * a i j)
      rw [if_pos et, Int.add_zero]; exact hw j
    · rw [decide_eq_false (show ¬ (0 + (i : Int)) = (t : Int) by omega)]
      have h5 := lfr (i := cellV ns (30 + i)) (m := 5) (by decide)
      have bby : bln ((cellV ns (30 + i)).fmod 5 - 2) ≤ 2 := bln_le (by omega)
      refine ⟨ns, 30 + i, ?_, hl, by omega, show (5 : Int) ≠ 0 by decide, rowD n (a i), ?_, ?_⟩
      · show [D.lst (ns.map .int), .int (30 + (0 + (i : Int)))] = _
        rw [show (30 : Int) + (0 + (i : Int)) = ((30 + i : Nat) : Int) by omega]
      · show atI ((List.range n).map fun i => rowD n (a i)) (0 + (i : Int)) = _
        rw [e0]; exact rng_at hi
      show compR _ (zipD ((List.range n).map fun j => .int (r j)) ((List.range n).map fun j => .int (a i j))) _
      rw [zip_rng]
      refine compR_rng (g := fun j => .int (r j + ((cellV ns (30 + i)).fmod 5 - 2) * a i j)) (fun j hj P hP => ⟨rfl, rfl, .inl (Nat.le_trans bby (by decide)), hP⟩) ?_
      refine ⟨.int (b i), ?_, .inl (Nat.le_trans bby (by decide)), fun j => r j + ((cellV ns (30 + i)).fmod 5 - 2) * a i j, s + ((cellV ns (30 + i)).fmod 5 - 2) * b i, _, _, rfl, ⟨fun k => if k = i then (cellV ns (30 + i)).fmod 5 - 2 else w k, fun j => ?_⟩, fun j => ?_, ?_⟩
      · show atI ((List.range n).map fun i => D.int (b i)) (0 + (i : Int)) = _
        rw [e0]; exact rng_at hi
      · show r j + _ = sumI i (fun k => if k = t then 0 else (if k = i then (cellV ns (30 + i)).fmod 5 - 2 else w k) * a k j) + (if i = t then 0 else (if i = i then (cellV ns (30 + i)).fmod 5 - 2 else w i) * a i j)
        rw [if_neg et, if_pos rfl, hw j]
        congr 1
        exact sumI_congr fun k hk => by rw [if_neg (show ¬ k = i by omega)]
      · have m1 := bln_mul_le ((cellV ns (30 + i)).fmod 5 - 2) (a i j)
        have m2 := bln_add_le (r j) (((cellV ns (30 + i)).fmod 5 - 2) * a i j)
        have := ba i j; have := br j
        show bln (r j + ((cellV ns (30 + i)).fmod 5 - 2) * a i j) ≤ 23 + (i + 1)
        omega
      · have m1 := bln_mul_le ((cellV ns (30 + i)).fmod 5 - 2) (b i)
        have m2 := bln_add_le s (((cellV ns (30 + i)).fmod 5 - 2) * b i)
        have := bb i
        omega
  · rintro _ ⟨r, s, y, z, rfl, hw, br, bs⟩
    refine ⟨nol_ints n r _, trivial, by show (2 : Nat) ≤ sizeLine; decide, h r s hw (fun j => by have := br j; omega) (by omega)⟩

theorem lean_zero {n t : Nat} (hn : n ≤ 4) (n2 : 2 ≤ n) (ht : t < n) (a : Mx) (r : Nat → Int) (h : LeanR n t a r) : pv n (fun i => if i = t then r else a i) = 0 := by
  obtain ⟨w, h⟩ := h
  match n, t, hn, n2, ht, h with
  | 2, 0, _, _, _, h =>
    have hr : ∀ j, r j = w 1 * a 1 j := fun j => by rw [h j]; simp only [sumI]; simp
    simp only [pv, m2, hr, if_true, show (1 : Nat) = 0 ↔ False by decide, if_false]
    grind
  | 2, 1, _, _, _, h =>
    have hr : ∀ j, r j = w 0 * a 0 j := fun j => by rw [h j]; simp only [sumI]; simp
    simp only [pv, m2, hr, if_true, show (0 : Nat) = 1 ↔ False by decide, if_false]
    grind
  | 3, 0, _, _, _, h =>
    have hr : ∀ j, r j = w 1 * a 1 j + w 2 * a 2 j := fun j => by rw [h j]; simp only [sumI]; simp
    simp only [pv, m3, m2, hr, if_true, show (1 : Nat) = 0 ↔ False by decide, show (2 : Nat) = 0 ↔ False by decide, if_false]
    grind
  | 3, 1, _, _, _, h =>
    have hr : ∀ j, r j = w 0 * a 0 j + w 2 * a 2 j := fun j => by rw [h j]; simp only [sumI]; simp
    simp only [pv, m3, m2, hr, if_true, show (0 : Nat) = 1 ↔ False by decide, show (2 : Nat) = 1 ↔ False by decide, if_false]
    grind
  | 3, 2, _, _, _, h =>
    have hr : ∀ j, r j = w 0 * a 0 j + w 1 * a 1 j := fun j => by rw [h j]; simp only [sumI]; simp
    simp only [pv, m3, m2, hr, if_true, show (0 : Nat) = 2 ↔ False by decide, show (1 : Nat) = 2 ↔ False by decide, if_false]
    grind
  | 4, 0, _, _, _, h =>
    have hr : ∀ j, r j = w 1 * a 1 j + w 2 * a 2 j + w 3 * a 3 j := fun j => by rw [h j]; simp only [sumI]; simp
    simp only [pv, m4, m3, m2, hr, if_true, show (1 : Nat) = 0 ↔ False by decide, show (2 : Nat) = 0 ↔ False by decide, show (3 : Nat) = 0 ↔ False by decide, if_false]
    grind
  | 4, 1, _, _, _, h =>
    have hr : ∀ j, r j = w 0 * a 0 j + w 2 * a 2 j + w 3 * a 3 j := fun j => by rw [h j]; simp only [sumI]; simp
    simp only [pv, m4, m3, m2, hr, if_true, show (0 : Nat) = 1 ↔ False by decide, show (2 : Nat) = 1 ↔ False by decide, show (3 : Nat) = 1 ↔ False by decide, if_false]
    grind
  | 4, 2, _, _, _, h =>
    have hr : ∀ j, r j = w 0 * a 0 j + w 1 * a 1 j + w 3 * a 3 j := fun j => by rw [h j]; simp only [sumI]; simp
    simp only [pv, m4, m3, m2, hr, if_true, show (0 : Nat) = 2 ↔ False by decide, show (1 : Nat) = 2 ↔ False by decide, show (3 : Nat) = 2 ↔ False by decide, if_false]
    grind
  | 4, 3, _, _, _, h =>
    have hr : ∀ j, r j = w 0 * a 0 j + w 1 * a 1 j + w 2 * a 2 j := fun j => by rw [h j]; simp only [sumI]; simp
    simp only [pv, m4, m3, m2, hr, if_true, show (0 : Nat) = 3 ↔ False by decide, show (1 : Nat) = 3 ↔ False by decide, show (2 : Nat) = 3 ↔ False by decide, if_false]
    grind
  | n + 5, _, hn, _, _, _ => exact absurd hn (by omega)

theorem srt_one : srtOk [0] ∧ srtIx [0] = [0] := by first | exact ⟨.inl (by decide), by decide +kernel⟩ | exact ⟨.inr ⟨by decide, by decide, by decide +kernel⟩, by decide +kernel⟩
theorem srt_2_0 : srtOk [0, 1] ∧ srtIx [0, 1] = [0, 1] := by first | exact ⟨.inl (by decide), by decide +kernel⟩ | exact ⟨.inr ⟨by decide, by decide, by decide +kernel⟩, by decide +kernel⟩
theorem srt_2_1 : srtOk [1, 0] ∧ srtIx [1, 0] = [1, 0] := by first | exact ⟨.inl (by decide), by decide +kernel⟩ | exact ⟨.inr ⟨by decide, by decide, by decide +kernel⟩, by decide +kernel⟩
theorem srt_3_0 : srtOk [0, 1, 2] ∧ srtIx [0, 1, 2] = [0, 1, 2] := by first | exact ⟨.inl (by decide), by decide +kernel⟩ | exact ⟨.inr ⟨by decide, by decide, by decide +kernel⟩, by decide +kernel⟩
theorem srt_3_1 : srtOk [1, 2, 0] ∧ srtIx [1, 2, 0] = [2, 0, 1] := by first | exact ⟨.inl (by decide), by decide +kernel⟩ | exact ⟨.inr ⟨by decide, by decide, by decide +kernel⟩, by decide +kernel⟩
theorem srt_3_2 : srtOk [2, 0, 1] ∧ srtIx [2, 0, 1] = [1, 2, 0] := by first | exact ⟨.inl (by decide), by decide +kernel⟩ | exact ⟨.inr ⟨by decide, by decide, by decide +kernel⟩, by decide +kernel⟩
theorem srt_4_0 : srtOk [0, 1, 2, 3] ∧ srtIx [0, 1, 2, 3] = [0, 1, 2, 3] := by first | exact ⟨.inl (by decide), by decide +kernel⟩ | exact ⟨.inr ⟨by decide, by decide, by decide +kernel⟩, by decide +kernel⟩
theorem srt_4_1 : srtOk [1, 2, 3, 0] ∧ srtIx [1, 2, 3, 0] = [3, 0, 1, 2] := by first | exact ⟨.inl (by decide), by decide +kernel⟩ | exact ⟨.inr ⟨by decide, by decide, by decide +kernel⟩, by decide +kernel⟩
theorem srt_4_2 : srtOk [2, 3, 0, 1] ∧ srtIx [2, 3, 0, 1] = [2, 3, 0, 1] := by first | exact ⟨.inl (by decide), by decide +kernel⟩ | exact ⟨.inr ⟨by decide, by decide, by decide +kernel⟩, by decide +kernel⟩
theorem srt_4_3 : srtOk [3, 0, 1, 2] ∧ srtIx [3, 0, 1, 2] = [1, 2, 3, 0] := by first | exact ⟨.inl (by decide), by decide +kernel⟩ | exact ⟨.inr ⟨by decide, by decide, by decide +kernel⟩, by decide +kernel⟩
/-- the diagonal system -/
def dgA (n t : Nat) (e o : Nat → Int) : Mq := fun k j => if j < n then (if j = (k + t) % n then (e k : Rat) else 0) else ((e k * o k : Int) : Rat)
def dgX (n t : Nat) (o : Nat → Int) : Nat → Rat := fun j => (o ((j + n - t) % n) : Rat)
theorem dg_ok {n t : Nat} (n0 : 0 < n) (n4 : n ≤ 4) (ht : t < n) (e o : Nat → Int) (he : ∀ k, 0 < e k) : Slv n (dgA n t e o) (dgX n t o) ∧ pq n (dgA n t e o) ≠ 0 := by
  have hq : ∀ k, (e k : Rat) ≠ 0 := fun k z => by
    have : e k = 0 := by exact_mod_cast z
    have := he k
    omega
  match n, t, n0, n4, ht with
  | 1, 0, _, _, _ =>
    refine ⟨fun r hr => ?_, ?_⟩
    · match r, hr with
      | 0, _ => simp [dgA, dgX, sumX]; try grind
    · simp [pq, dgA]; exact fun z => hq 0 (by exact_mod_cast z)
  | 2, 0, _, _, _ =>
    refine ⟨fun r hr => ?_, ?_⟩
    · match r, hr with
      | 0, _ => simp [dgA, dgX, sumX]; try grind
      | 1, _ => simp [dgA, dgX, sumX]; try grind
    · have ep : pq 2 (dgA 2 0 e o) = ((e 0 : Rat) * e 1) := by simp [pq, r2, dgA]; try grind
      rw [ep]
      intro z
      have z : (e 0 : Rat) * e 1 = 0 := by grind
      have z := (Rat.mul_eq_zero.mp z).resolve_right (hq 1)
      exact hq 0 z
  | 2, 1, _, _, _ =>
    refine ⟨fun r hr => ?_, ?_⟩
    · match r, hr with
      | 0, _ => simp [dgA, dgX, sumX]; try grind
      | 1, _ => simp [dgA, dgX, sumX]; try grind
    · have ep : pq 2 (dgA 2 1 e o) = -((e 0 : Rat) * e 1) := by simp [pq, r2, dgA]; try grind
      rw [ep]
      intro z
      have z : (e 0 : Rat) * e 1 = 0 := by grind
      have z := (Rat.mul_eq_zero.mp z).resolve_right (hq 1)
      exact hq 0 z
  | 3, 0, _, _, _ =>
    refine ⟨fun r hr => ?_, ?_⟩
    · match r, hr with
      | 0, _ => simp [dgA, dgX, sumX]; try grind
      | 1, _ => simp [dgA, dgX, sumX]; try grind
      | 2, _ => simp [dgA, dgX, sumX]; try grind
    · have ep : pq 3 (dgA 3 0 e o) = ((e 0 : Rat) * e 1 * e 2) := by simp [pq, r3, r2, dgA]; try grind
      rw [ep]
      intro z
      have z : (e 0 : Rat) * e 1 * e 2 = 0 := by grind
      have z := (Rat.mul_eq_zero.mp z).resolve_right (hq 2)
      have z := (Rat.mul_eq_zero.mp z).resolve_right (hq 1)
      exact hq 0 z
  | 3, 1, _, _, _ =>
    refine ⟨fun r hr => ?_, ?_⟩
    · match r, hr with
      | 0, _ => simp [dgA, dgX, sumX]; try grind
      | 1, _ => simp [dgA, dgX, sumX]; try grind
      | 2, _ => simp [dgA, dgX, sumX]; try grind
    · have ep : pq 3 (dgA 3 1 e o) = ((e 0 : Rat) * e 1 * e 2) := by simp [pq, r3, r2, dgA]; try grind
      rw [ep]
      intro z
      have z : (e 0 : Rat) * e 1 * e 2 = 0 := by grind
      have z := (Rat.mul_eq_zero.mp z).resolve_right (hq 2)
      have z := (Rat.mul_eq_zero.mp z).resolve_right (hq 1)
      exact hq 0 z
  | 3, 2, _, _, _ =>
    refine ⟨fun r hr => ?_, ?_⟩
    · match r, hr with
      | 0, _ => simp [dgA, dgX, sumX]; try grind
      | 1, _ => simp [dgA, dgX, sumX]; try grind
      | 2, _ => simp [dgA, dgX, sumX]; try grind
    · have ep : pq 3 (dgA 3 2 e o) = ((e 0 : Rat) * e 1 * e 2) := by simp [pq, r3, r2, dgA]; try grind
      rw [ep]
      intro z
      have z : (e 0 : Rat) * e 1 * e 2 = 0 := by grind
      have z := (Rat.mul_eq_zero.mp z).resolve_right (hq 2)
      have z := (Rat.mul_eq_zero.mp z).resolve_right (hq 1)
      exact hq 0 z
  | 4, 0, _, _, _ =>
    refine ⟨fun r hr => ?_, ?_⟩
    · match r, hr with
      | 0, _ => simp [dgA, dgX, sumX]; try grind
      | 1, _ => simp [dgA, dgX, sumX]; try grind
      | 2, _ => simp [dgA, dgX, sumX]; try grind
      | 3, _ => simp [dgA, dgX, sumX]; try grind
    · have ep : pq 4 (dgA 4 0 e o) = ((e 0 : Rat) * e 1 * e 2 * e 3) := by simp [pq, r4, r3, r2, dgA]; try grind
      rw [ep]
      intro z
      have z : (e 0 : Rat) * e 1 * e 2 * e 3 = 0 := by grind
      have z := (Rat.mul_eq_zero.mp z).resolve_right (hq 3)
      have z := (Rat.mul_eq_zero.mp z).resolve_right (hq 2)
      have z := (Rat.mul_eq_zero.mp z).resolve_right (hq 1)
      exact hq 0 z
  | 4, 1, _, _, _ =>
    refine ⟨fun r hr => ?_, ?_⟩
    · match r, hr with
      | 0, _ => simp [dgA, dgX, sumX]; try grind
      | 1, _ => simp [dgA, dgX, sumX]; try grind
      | 2, _ => simp [dgA, dgX, sumX]; try grind
      | 3, _ => simp [dgA, dgX, sumX]; try grind
    · have ep : pq 4 (dgA 4 1 e o) = -((e 0 : Rat) * e 1 * e 2 * e 3) := by simp [pq, r4, r3, r2, dgA]; try grind
      rw [ep]
      intro z
      have z : (e 0 : Rat) * e 1 * e 2 * e 3 = 0 := by grind
      have z := (Rat.mul_eq_zero.mp z).resolve_right (hq 3)
      have z := (Rat.mul_eq_zero.mp z).resolve_right (hq 2)
      have z := (Rat.mul_eq_zero.mp z).resolve_right (hq 1)
      exact hq 0 z
  | 4, 2, _, _, _ =>
    refine ⟨fun r hr => ?_, ?_⟩
    · match r, hr with
      | 0, _ => simp [dgA, dgX, sumX]; try grind
      | 1, _ => simp [dgA, dgX, sumX]; try grind
      | 2, _ => simp [dgA, dgX, sumX]; try grind
      | 3, _ => simp [dgA, dgX, sumX]; try grind
    · have ep : pq 4 (dgA 4 2 e o) = ((e 0 : Rat) * e 1 * e 2 * e 3) := by simp [pq, r4, r3, r2, dgA]; try grind
      rw [ep]
      intro z
      have z : (e 0 : Rat) * e 1 * e 2 * e 3 = 0 := by grind
      have z := (Rat.mul_eq_zero.mp z).resolve_right (hq 3)
      have z := (Rat.mul_eq_zero.mp z).resolve_right (hq 2)
      have z := (Rat.mul_eq_zero.mp z).resolve_right (hq 1)
      exact hq 0 z
  | 4, 3, _, _, _ =>
    refine ⟨fun r hr => ?_, ?_⟩
    · match r, hr with
      | 0, _ => simp [dgA, dgX, sumX]; try grind
      | 1, _ => simp [dgA, dgX, sumX]; try grind
      | 2, _ => simp [dgA, dgX, sumX]; try grind
      | 3, _ => simp [dgA, dgX, sumX]; try grind
    · have ep : pq 4 (dgA 4 3 e o) = -((e 0 : Rat) * e 1 * e 2 * e 3) := by simp [pq, r4, r3, r2, dgA]; try grind
      rw [ep]
      intro z
      have z : (e 0 : Rat) * e 1 * e 2 * e 3 = 0 := by grind
      have z := (Rat.mul_eq_zero.mp z).resolve_right (hq 3)
      have z := (Rat.mul_eq_zero.mp z).resolve_right (hq 2)
      have z := (Rat.mul_eq_zero.mp z).resolve_right (hq 1)
      exact hq 0 z
  | n + 5, _, _, hn, _ => exact absurd hn (by omega)

structure ClsA (K : PySem.W.Frag) (c : Cls) : Prop where
  ok : ExcC K c.NoAnswer
  okG : ExcG K c.NoAnswer
  f1 : excSub K c.NoAnswer c.HallError = true
  f2 : excSub K c.NoAnswer c.NoAnswer = true
  f3 : excSub K c.NoAnswer c.Barred = false
  f4 : excSub K c.NoAnswer c.Missing = false
  f5 : excSub K c.NoAnswer c.NoFraction = false
theorem r_law_kind {K : PySem.W.Frag} {c : Cls} {ds Q Ex} (F : ClsA K c) (h : sp_law_kind c ds Q Ex) : rd_law_kind K c (fin Q) (start3 4 ds) fun _ => Ex := by
  obtain ⟨n, A, ⟨rfl, hn, hz⟩, hp, h⟩ := h
  refine ⟨n, A, fun _ => 0, ⟨rfl, hn, hz⟩, fun _ => ⟨_, rfl, F.ok, F.f1, ⟨F.ok, F.okG⟩, ?_⟩, fun z => absurd hp z⟩
  rw [F.f2]
  refine ⟨⟨F.ok, F.okG⟩, ?_⟩
  simp only [List.any_cons, List.any_nil, F.f3, F.f4, F.f5, Bool.or_false, Bool.not_false]
  exact h
theorem rng_app {n : Nat} (f : Nat → D) : (List.range (n + 1)).map f = (List.range n).map f ++ [f n] := by rw [List.range_succ, List.map_append]; rfl
theorem firsts_rng (n : Nat) (f : Nat → Int) (g : Nat → D) : ∀ is : List Nat, firstsD (is.map fun k => .tup [.int (f k), g k]) = some (is.map f)
  | [] => rfl
  | i :: is => by
    rw [List.map_cons]
    unfold firstsD
    rw [firsts_rng n f g is]; rfl
def dgO (n t : Nat) (k : Nat) : Int := (((k + t) % n : Nat) : Int)
/-- what is sorted, one by one -/
theorem dg_end {n t : Nat} (n0 : 0 < n) (n4 : n ≤ 4) (ht : t < n) (o : Nat → Int) (P : List D → Prop) (h : P ((List.range n).map fun j => qD (dgX n t o j))) {Γ0 : G2} (hΓ : Γ0 = [.no, .no]) : n_sortedT [.lst ((List.range n).map fun k => .tup [.int (dgO n t k), qD (o k : Rat)])] fun es => compR (oneR (hTup 2 (hCons (hName 0) (hCons (hName 1) hNil))) cYes (cV 1) Γ0) es P := by
  subst hΓ
  have s1 := sl1
  match n, t, n0, n4, ht with
  | 1, 0, _, _, _ =>
    obtain ⟨q1, q2⟩ := srt_one
    refine ⟨[0], firsts_rng 1 (dgO 1 0) (fun k => qD (o k : Rat)) [0], q1, ?_, ?_, ?_⟩
    · rw [q2]; decide
    · rw [q2]; show (1 : Nat) ≤ sizeLine; decide
    · rw [q2]; exact ⟨rfl, rfl, h⟩
  | 2, 0, _, _, _ =>
    obtain ⟨q1, q2⟩ := srt_2_0
    refine ⟨[0, 1], firsts_rng 2 (dgO 2 0) (fun k => qD (o k : Rat)) [0, 1], q1, ?_, ?_, ?_⟩
    · rw [q2]; decide
    · rw [q2]; show (2 : Nat) ≤ sizeLine; decide
    · rw [q2]; exact ⟨rfl, rfl, ⟨rfl, rfl, h⟩⟩
  | 2, 1, _, _, _ =>
    obtain ⟨q1, q2⟩ := srt_2_1
    refine ⟨[1, 0], firsts_rng 2 (dgO 2 1) (fun k => qD (o k : Rat)) [0, 1], q1, ?_, ?_, ?_⟩
    · rw [q2]; decide
    · rw [q2]; show (2 : Nat) ≤ sizeLine; decide
    · rw [q2]; exact ⟨rfl, rfl, ⟨rfl, rfl, h⟩⟩
  | 3, 0, _, _, _ =>
    obtain ⟨q1, q2⟩ := srt_3_0
    refine ⟨[0, 1, 2], firsts_rng 3 (dgO 3 0) (fun k => qD (o k : Rat)) [0, 1, 2], q1, ?_, ?_, ?_⟩
    · rw [q2]; decide
    · rw [q2]; show (3 : Nat) ≤ sizeLine; decide
    · rw [q2]; exact ⟨rfl, rfl, ⟨rfl, rfl, ⟨rfl, rfl, h⟩⟩⟩
  | 3, 1, _, _, _ =>
    obtain ⟨q1, q2⟩ := srt_3_1
    refine ⟨[1, 2, 0], firsts_rng 3 (dgO 3 1) (fun k => qD (o k : Rat)) [0, 1, 2], q1, ?_, ?_, ?_⟩
    · rw [q2]; decide
    · rw [q2]; show (3 : Nat) ≤ sizeLine; decide
    · rw [q2]; exact ⟨rfl, rfl, ⟨rfl, rfl, ⟨rfl, rfl, h⟩⟩⟩
  | 3, 2, _, _, _ =>
    obtain ⟨q1, q2⟩ := srt_3_2
    refine ⟨[2, 0, 1], firsts_rng 3 (dgO 3 2) (fun k => qD (o k : Rat)) [0, 1, 2], q1, ?_, ?_, ?_⟩
    · rw [q2]; decide
    · rw [q2]; show (3 : Nat) ≤ sizeLine; decide
    · rw [q2]; exact ⟨rfl, rfl, ⟨rfl, rfl, ⟨rfl, rfl, h⟩⟩⟩
  | 4, 0, _, _, _ =>
    obtain ⟨q1, q2⟩ := srt_4_0
    refine ⟨[0, 1, 2, 3], firsts_rng 4 (dgO 4 0) (fun k => qD (o k : Rat)) [0, 1, 2, 3], q1, ?_, ?_, ?_⟩
    · rw [q2]; decide
    · rw [q2]; show (4 : Nat) ≤ sizeLine; decide
    · rw [q2]; exact ⟨rfl, rfl, ⟨rfl, rfl, ⟨rfl, rfl, ⟨rfl, rfl, h⟩⟩⟩⟩
  | 4, 1, _, _, _ =>
    obtain ⟨q1, q2⟩ := srt_4_1
    refine ⟨[1, 2, 3, 0], firsts_rng 4 (dgO 4 1) (fun k => qD (o k : Rat)) [0, 1, 2, 3], q1, ?_, ?_, ?_⟩
    · rw [q2]; decide
    · rw [q2]; show (4 : Nat) ≤ sizeLine; decide
    · rw [q2]; exact ⟨rfl, rfl, ⟨rfl, rfl, ⟨rfl, rfl, ⟨rfl, rfl, h⟩⟩⟩⟩
  | 4, 2, _, _, _ =>
    obtain ⟨q1, q2⟩ := srt_4_2
    refine ⟨[2, 3, 0, 1], firsts_rng 4 (dgO 4 2) (fun k => qD (o k : Rat)) [0, 1, 2, 3], q1, ?_, ?_, ?_⟩
    · rw [q2]; decide
    · rw [q2]; show (4 : Nat) ≤ sizeLine; decide
    · rw [q2]; exact ⟨rfl, rfl, ⟨rfl, rfl, ⟨rfl, rfl, ⟨rfl, rfl, h⟩⟩⟩⟩
  | 4, 3, _, _, _ =>
    obtain ⟨q1, q2⟩ := srt_4_3
    refine ⟨[3, 0, 1, 2], firsts_rng 4 (dgO 4 3) (fun k => qD (o k : Rat)) [0, 1, 2, 3], q1, ?_, ?_, ?_⟩
    · rw [q2]; decide
    · rw [q2]; show (4 : Nat) ≤ sizeLine; decide
    · rw [q2]; exact ⟨rfl, rfl, ⟨rfl, rfl, ⟨rfl, rfl, ⟨rfl, rfl, h⟩⟩⟩⟩
  | n + 5, _, _, hn, _ => exact absurd hn (by omega)
theorem r_law_diagonal {K : PySem.W.Frag} {c : Cls} {ds Q Ex} (h : sp_law_diagonal c ds Q Ex) : rd_law_diagonal K c (fin Q) (start3 10 ds) fun _ => Ex := by
  obtain ⟨ns, n, rfl, hl, n0, n4, h⟩ := h
  have s1 := sl1
  have two : (2 : Nat) ≤ sizeLine := by decide
  have n62 : (-(2 ^ 62) : Int) ≤ (n : Int) ∧ (n : Int) < 2 ^ 62 := ⟨by omega, by omega⟩
  obtain ⟨t, et, ht⟩ := fmod_nat (i := cellV ns 40) (n := n) n0
  refine ⟨Nat.zero_le _, Nat.zero_le _, Nat.zero_le _, ns, 40, rfl, hl, by decide, show (n : Int) ≠ 0 by omega, ?_⟩
  change rd_law_diagonal_4 K c (fin Q) [.pu (.lst (ns.map .int)), .pu (.int n), .ow [], .ow [], .ow [], .pu (.int ((cellV ns 40).fmod (n : Int))), .no, .no, .no, .no] fun _ => Ex
  rw [et]
  let e : Nat → Int := fun k => 1 + (cellV ns (41 + k)).fmod 9
  let o : Nat → Int := fun k => (cellV ns (46 + k)).fmod 19 - 9
  have he : ∀ k, 0 < e k ∧ e k ≤ 9 := fun k => by
    have := lfr (i := cellV ns (41 + k)) (m := 9) (by decide)
    show 0 < 1 + (cellV ns (41 + k)).fmod 9 ∧ 1 + (cellV ns (41 + k)).fmod 9 ≤ 9
    omega
  have ho : ∀ k, -9 ≤ o k ∧ o k ≤ 9 := fun k => by
    have := lfr (i := cellV ns (46 + k)) (m := 19) (by decide)
    show -9 ≤ (cellV ns (46 + k)).fmod 19 - 9 ∧ (cellV ns (46 + k)).fmod 19 - 9 ≤ 9
    omega
  have bln_small : ∀ i : Int, -9 ≤ i → i ≤ 9 → bln i ≤ 4 := fun i h1 h2 => bln_le (by omega)
  refine ⟨n62, ?_⟩
  rw [Int.toNat_natCast]
  refine ⟨fun i Γ => ∃ (y z u v : Slot), Γ = [.pu (.lst (ns.map .int)), .pu (.int n), .ow ((List.range i).map fun k => rowQ n (dgA n t e o k)), .ow ((List.range i).map fun k => qD (dgA n t e o k n)), .ow ((List.range i).map fun k => .tup [.int (dgO n t k), qD (o k : Rat)]), .pu (.int t), y, z, u, v], ⟨_, _, _, _, rfl⟩, ?_, ?_⟩
  · rintro i _ hi ⟨y, z, u, v, rfl⟩
    have em : (0 + (i : Int) + (t : Int)).fmod (n : Int) = dgO n t i := by
      unfold dgO
      rw [Int.fmod_eq_emod_of_nonneg _ (by omega), Int.natCast_emod]
      congr 1; omega
    refine ⟨show (n : Int) ≠ 0 by omega, ns, 41 + i, ?_, hl, by omega, show (9 : Int) ≠ 0 by decide, ns, 46 + i, ?_, hl, by omega, show (19 : Int) ≠ 0 by decide, ?_⟩
    · show [D.lst (ns.map .int), .int (41 + (0 + (i : Int)))] = _
      rw [show (41 : Int) + (0 + (i : Int)) = ((41 + i : Nat) : Int) by omega]
    · show [D.lst (ns.map .int), .int (46 + (0 + (i : Int)))] = _
      rw [show (46 : Int) + (0 + (i : Int)) = ((46 + i : Nat) : Int) by omega]
    change rd_law_diagonal_b1_3 K c _ [.pu (.lst (ns.map .int)), .pu (.int n), .ow ((List.range i).map fun k => rowQ n (dgA n t e o k)), .ow ((List.range i).map fun k => qD (dgA n t e o k n)), .ow ((List.range i).map fun k => .tup [.int (dgO n t k), qD (o k : Rat)]), .pu (.int t), .pu (.int (0 + (i : Int))), .pu (.int ((0 + (i : Int) + (t : Int)).fmod (n : Int))), .pu (.int (e i)), .pu (.int (o i))] _
    rw [em]
    refine ⟨⟨_, rfl⟩, n62, by rw [Int.toNat_natCast]; omega, ?_⟩
    rw [Int.toNat_natCast]
    refine compR_rng (g := fun j => qD (dgA n t e o i j)) (fun j hj P hP => ?_) ?_
    · refine ⟨trivial, .inr (.inl ?_), two, ?_⟩
      · split <;> exact bln_le (by decide)
      show P [.tup [.int (e i * (if deq (.int (0 + (j : Int))) (.int (dgO n t i)) = true then 1 else 0)), .int 1]]
      have ea : (((e i * (if deq (.int (0 + (j : Int))) (.int (dgO n t i)) = true then 1 else 0) : Int)) : Rat) = dgA n t e o i j := by
        rw [deq_int]
        unfold dgA dgO
        rw [if_pos hj]
        by_cases q : j = (i + t) % n
        · rw [decide_eq_true (by omega), if_pos rfl, if_pos q, Int.mul_one]
        · rw [decide_eq_false (by omega), if_neg Bool.false_ne_true, if_neg q, Int.mul_zero]; rfl
      have := qD_int (e i * (if deq (.int (0 + (j : Int))) (.int (dgO n t i)) = true then 1 else 0))
      rw [ea] at this
      rw [← this]; exact hP
    · have be : bln (e i) ≤ 64 := Nat.le_trans (bln_small _ (by have := he i; omega) (he i).2) (by decide)
      refine ⟨by simp only [List.length_map, List.length_range]; omega, ⟨_, rfl⟩, .inl be, two, by simp only [List.length_map, List.length_range]; omega, ⟨_, rfl⟩, two, two, by simp only [List.length_map, List.length_range]; omega, .pu (.int (0 + (i : Int))), .pu (.int (dgO n t i)), .pu (.int (e i)), .pu (.int (o i)), ?_⟩
      rw [rng_app, rng_app, rng_app]
      have en : dgA n t e o i n = ((e i * o i : Int) : Rat) := by unfold dgA; rw [if_neg (by omega)]
      rw [en]; rfl
  · rintro _ ⟨y, z, u, v, rfl⟩
    obtain ⟨k1, k2⟩ := dg_ok n0 n4 ht e o fun k => (he k).1
    refine dg_end n0 n4 ht o _ ?_ rfl
    refine ⟨by show (3 : Nat) ≤ sizeLine; decide, h (dgA n t e o) (dgX n t o) (fun i j hi hj => ?_) k1 k2⟩
    unfold dgA
    split
    · split
      · exact sz_int (Nat.le_trans (bln_small _ (by have := he i; omega) (he i).2) (by decide)) (by decide)
      · exact ⟨by decide, by decide⟩
    · refine sz_int (Nat.le_trans (bln_mul_le _ _) ?_) (by decide)
      have := bln_small _ (by have := he i; omega) (he i).2
      have := bln_small _ (ho i).1 (ho i).2
      omega

theorem set_rng1 {n : Nat} (f : Nat → D) (d : D) {t : Nat} (ht : t < n) : ((List.range n).map f).set t d = (List.range n).map fun i => if i = t then d else f i := by
  apply List.ext_getElem
  · simp
  · intro i h1 h2
    simp only [List.getElem_set, List.getElem_map, List.getElem_range]
    by_cases e : t = i
    · rw [if_pos e, if_pos e.symm]
    · rw [if_neg e, if_neg (Ne.symm e)]
theorem r_law {K : PySem.W.Frag} {c : Cls} {ds Q Ex} (h : sp_law c ds Q Ex) : rd_law K c (fin Q) (start3 10 ds) fun _ => Ex := by
  obtain ⟨ns, rfl, hl, h⟩ := h
  have s1 := sl1
  have two : (2 : Nat) ≤ sizeLine := by decide
  refine ⟨ns, 0, rfl, hl, by decide, show (3 : Int) ≠ 0 by decide, ?_⟩
  obtain ⟨m, em, hm⟩ := fmod_nat (i := cellV ns 0) (n := 3) (by decide)
  have em' : 2 + (cellV ns 0).fmod 3 = ((2 + m : Nat) : Int) := by
    have : (cellV ns 0).fmod 3 = (m : Int) := em
    rw [this]; omega
  change rd_law_1 K c (fin Q) [.pu (.lst (ns.map .int)), .pu (.int (2 + (cellV ns 0).fmod 3)), .no, .no, .no, .no, .no, .no, .no, .no] fun _ => Ex
  rw [em']
  obtain ⟨n, en⟩ : ∃ n, n = 2 + m := ⟨_, rfl⟩
  rw [← en]
  have n2 : 2 ≤ n := by omega
  have n4 : n ≤ 4 := by omega
  clear em em' en
  have n62 : (-(2 ^ 62) : Int) ≤ (n : Int) ∧ (n : Int) < 2 ^ 62 := ⟨by omega, by omega⟩
  let a : Mx := fun k j => (cellV ns (2 + n * k + j)).fmod 7 - 3
  let b : Nat → Int := fun k => (cellV ns (20 + k)).fmod 19 - 9
  have ba : BkM 20 a := fun k j => by
    have := lfr (i := cellV ns (2 + n * k + j)) (m := 7) (by decide)
    show bln ((cellV ns (2 + n * k + j)).fmod 7 - 3) ≤ 20
    exact Nat.le_trans (bln_le (k := 4) (by omega)) (by decide)
  have bb : ∀ k, bln (b k) ≤ 20 := fun k => by
    have := lfr (i := cellV ns (20 + k)) (m := 19) (by decide)
    show bln ((cellV ns (20 + k)).fmod 19 - 9) ≤ 20
    exact Nat.le_trans (bln_le (k := 4) (by omega)) (by decide)
  refine ⟨n62, by rw [Int.toNat_natCast]; omega, ?_⟩
  rw [Int.toNat_natCast]
  refine compR_rng (g := fun k => rowD n (a k)) (fun k hk P hP => ⟨n62, by rw [Int.toNat_natCast]; omega, ?_⟩) ?_
  · rw [Int.toNat_natCast]
    refine compR_rng (g := fun j => .int (a k j)) (fun j hj P hP => ?_) hP
    have hnk : n * k ≤ 16 := by
      have := Nat.mul_le_mul n4 (show k ≤ 4 by omega)
      omega
    refine ⟨.inl (bln_le (by omega)), ns, 2 + n * k + j, ?_, hl, by omega, show (7 : Int) ≠ 0 by decide, hP⟩
    show [D.lst (ns.map .int), .int (2 + (n : Int) * (0 + (k : Int)) + (0 + (j : Int)))] = _
    rw [show (2 : Int) + (n : Int) * (0 + (k : Int)) + (0 + (j : Int)) = ((2 + n * k + j : Nat) : Int) by push_cast; rw [Int.zero_add, Int.zero_add]]
  refine ⟨n62, by rw [Int.toNat_natCast]; omega, ?_⟩
  rw [Int.toNat_natCast]
  refine compR_rng (g := fun k => .int (b k)) (fun k hk P hP => ⟨ns, 20 + k, ?_, hl, by omega, show (19 : Int) ≠ 0 by decide, hP⟩) ?_
  · show [D.lst (ns.map .int), .int (20 + (0 + (k : Int)))] = _
    rw [show (20 : Int) + (0 + (k : Int)) = ((20 + k : Nat) : Int) by omega]
  clear_value a b
  obtain ⟨t, et, ht⟩ := fmod_nat (i := cellV ns 1) (n := n) (by omega)
  refine ⟨ns, 1, rfl, hl, by decide, show (n : Int) ≠ 0 by omega, ?_⟩
  change rd_law_4 K c (fin Q) [.pu (.lst (ns.map .int)), .pu (.int n), .ow ((List.range n).map fun k => rowD n (a k)), .ow ((List.range n).map fun k => .int (b k)), .pu (.int ((cellV ns 1).fmod (n : Int))), .no, .no, .no, .no, .no] fun _ => Ex
  rw [et]
  refine ⟨ns, n, t, a, b, rfl, hl, by omega, n4, ba, bb, fun r s hr br bs => ?_⟩
  refine ⟨rfl, rfl, ⟨_, rfl⟩, t, ixN_nat (by simp [ht]), ?_⟩
  let a' : Mx := fun i => if i = t then r else a i
  have ez : pv n a' = 0 := lean_zero n4 n2 ht a r hr
  have ba' : BkM 40 a' := fun i j => by
    show bln ((if i = t then r else a i) j) ≤ 40
    split
    · exact br j
    · exact Nat.le_trans (ba i j) (by decide)
  have ea : ((List.range n).map fun k => rowD n (a k)).set t (rowD n r) = (List.range n).map fun k => rowD n (a' k) := by
    rw [set_rng1 _ _ ht]
    refine List.map_congr_left fun k _ => ?_
    show (if k = t then rowD n r else rowD n (a k)) = rowD n (if k = t then r else a k)
    split <;> rfl
  change rd_law_6 K c (fin Q) [.pu (.lst (ns.map .int)), .pu (.int n), .ow (((List.range n).map fun k => rowD n (a k)).set t (rowD n r)), .ow ((List.range n).map fun k => .int (b k)), .pu (.int t), .pu (rowD n r), .pu (.int s), .no, .no, .no] fun _ => Ex
  rw [ea]
  clear_value a'
  have rest : ∀ b' : Nat → Int, (∀ k, bln (b' k) ≤ 40) → rd_law_7 K c (fin Q) [.pu (.lst (ns.map .int)), .pu (.int n), .ow ((List.range n).map fun k => rowD n (a' k)), .ow ((List.range n).map fun k => .int (b' k)), .pu (.int t), .pu (rowD n r), .pu (.int s), .no, .no, .no] fun _ => Ex := by
    intro b' bb'
    let A : Mq := fun i j => if j < n then (a' i j : Rat) else (b' i : Rat)
    have Av : ∀ i j, j < n → A i j = (a' i j : Rat) := fun i j hj => by show (if j < n then _ else _) = _; rw [if_pos hj]
    have An : ∀ i, A i n = (b' i : Rat) := fun i => by show (if n < n then _ else _) = _; rw [if_neg (by omega)]
    clear_value A
    refine compR_rng (g := fun i => rowQ n (A i)) (fun i hi P hP => ?_) ?_
    · refine compR_rng (g := fun j => qD (A i j)) (fun j hj P hP => ⟨two, ?_⟩) hP
      rw [Av i j hj, qD_int] at hP; exact hP
    show compR _ ((List.range n).map fun k => .int (b' k)) _
    refine compR_rng (g := fun i => qD (A i n)) (fun i hi P hP => ⟨two, ?_⟩) ?_
    · rw [An i, qD_int] at hP; exact hP
    have p0 : pq n A = 0 := by
      have e := pq_scale (n := n) n4 (qM a') A (fun _ => 1) (fun i hi j hj => by rw [Av i j hj, Rat.one_mul]; rfl) fun i hi => by decide
      rw [e, ← pv_q, ez]; rfl
    refine ⟨n, A, ⟨rfl, n4, fun i j hi hj => ?_⟩, p0, ?_⟩
    · by_cases q : j < n
      · rw [Av i j q]; exact sz_int (Nat.le_trans (ba' i j) (by decide)) (by decide)
      · obtain rfl : j = n := by omega
        rw [An i]; exact sz_int (Nat.le_trans (bb' i) (by decide)) (by decide)
    obtain ⟨v, ev, hv⟩ := fmod_nat (i := cellV ns 25) (n := 4) (by decide)
    refine ⟨ns, 25, rfl, hl, by decide, show (4 : Int) ≠ 0 by decide, ns, 1 + v, ?_, hl, by omega, by omega, fun B x zB sB pB => ?_⟩
    · show [D.lst (ns.map .int), .int (1 + (cellV ns 25).fmod 4)] = _
      have : (cellV ns 25).fmod 4 = (v : Int) := ev
      rw [this, show (1 : Int) + (v : Int) = ((1 + v : Nat) : Int) by omega]
    refine ⟨rfl, rfl, 1 + v, B, x, ⟨rfl, by omega, zB⟩, fun z => absurd z pB, fun _ => ⟨sB, cmp_rowQ _ _, ?_⟩⟩
    rw [deq_refl]
    refine ⟨Nat.zero_le _, Nat.zero_le _, 0, fun _ _ => 0, fun _ => 0, ⟨rfl, by omega, fun i j hi => by omega⟩, fun z => absurd z (by decide), fun _ => ⟨fun r hr => by omega, Nat.zero_le _, cmp_rowQ (n := 0) (fun _ => 0) (fun _ => 0), ?_⟩⟩
    show Q (.bl (deq (.lst []) (.lst [])))
    rw [deq_refl]; exact h
  refine ⟨ns, 1, rfl, hl, by decide, ⟨show (4 : Int) ≠ 0 by decide, bln9 (by decide)⟩, show (2 : Int) ≠ 0 by decide, trivial, ?_⟩
  cases deq (.int (((cellV ns 1).fdiv 4).fmod 2)) (.int 1) with
  | false => exact rest b fun k => Nat.le_trans (bb k) (by decide)
  | true =>
    refine ⟨⟨_, rfl⟩, t, ixN_nat (by simp [ht]), ?_⟩
    have eb : ((List.range n).map fun k => D.int (b k)).set t (.int s) = (List.range n).map fun k => .int (if k = t then s else b k) := by
      rw [set_rng1 _ _ ht]
      refine List.map_congr_left fun k _ => ?_
      show (if k = t then D.int s else .int (b k)) = .int (if k = t then s else b k)
      split <;> rfl
    change rd_law_7 K c (fin Q) [.pu (.lst (ns.map .int)), .pu (.int n), .ow ((List.range n).map fun k => rowD n (a' k)), .ow (((List.range n).map fun k => D.int (b k)).set t (.int s)), .pu (.int t), .pu (rowD n r), .pu (.int s), .no, .no, .no] fun _ => Ex
    rw [eb]
    refine rest _ fun k => ?_
    split
    · exact bs
    · exact Nat.le_trans (bb k) (by decide)
end L3

namespace Lw
open PySem PySem.Spec PyProof.Rows L2 L3
def top (i : Nat) : Stmt := PySem.Challenge.pw_hall_k22_no_answer.main.body.getD i (.Pass ⟨0, 0, 0, 0⟩)
section
variable {P : Program} {w : World} {K : PySem.W.Frag} {mg : Str → Option Value} {base : Heap}
abbrev s_law_cell : Stmt := top 17
theorem sc_law_cell : FnScope ["_law_script", "_law_k", "_law_number"] ["_law_script", "_law_k"] (defScope s_law_cell) := ⟨rfl, rfl, rfl, by decide +kernel, rfl, by decide +kernel, by decide +kernel⟩
theorem d_law_cell {f : Addr} {cdv : Value} {A : Around} {outer : List Env} {s : Shared} {H : Hp} {E : XK} {F0 : Hp} (c : Cls) (hr : Room 0 (A.deeper (envOfC "_law_cell" (defScope s_law_cell) s.heap.objs.size f cdv))) (b_len : mg "len" = none) : QSs (cxOf (CX1 P w) P w K mg base ["_law_script", "_law_k", "_law_number"] "_law_cell" (defScope s_law_cell) f cdv A outer s H E) F0 H (defBody s_law_cell) (rd_law_cell K c ) := by
  have nd := sc_law_cell.nd
  have hu : (A.deeper (envOfC "_law_cell" (defScope s_law_cell) s.heap.objs.size f cdv)).units + 21 < cLine := by have := hr.units; omega
  exact (qss_cons (by exact (qs_if (by exact (qt_cmp (fun _ => o_lt) (qe_var (i := 1) rfl (by first | exact Or.inl rfl | exact Or.inr (Or.inl rfl) | exact Or.inr (Or.inr rfl))) (qe_callB (fun _ => q_len) rfl b_len boot_len (qa_cons (qe_var (i := 0) rfl (by first | exact Or.inl rfl | exact Or.inr (Or.inl rfl) | exact Or.inr (Or.inr rfl))) qa_nil)) (nomark _)))
 (by exact (qss_one (by exact (qs_ret (by exact (qe_ix (qe_var (i := 0) rfl (by first | exact Or.inl rfl | exact Or.inr (Or.inl rfl) | exact Or.inr (Or.inr rfl))) (qe_var (i := 1) rfl (by first | exact Or.inl rfl | exact Or.inr (Or.inl rfl) | exact Or.inr (Or.inr rfl))) (fun _ _ => rfl)))))))
 (by exact qss_nil)))
 (by exact (qss_cons (by exact (qs_set (i := 2) nd rfl (by first | exact Or.inl rfl | exact Or.inr rfl) (by exact (qe_bin (fun _ => o_add) (qe_bin (fun _ => o_mul) (qe_var (i := 1) rfl (by first | exact Or.inl rfl | exact Or.inr (Or.inl rfl) | exact Or.inr (Or.inr rfl))) qe_int) qe_int))))
 (by exact (qss_cons (by exact (qs_if (by exact (qt_cmp (fun _ => o_gt) (qe_callB (fun _ => q_len) rfl b_len boot_len (qa_cons (qe_var (i := 0) rfl (by first | exact Or.inl rfl | exact Or.inr (Or.inl rfl) | exact Or.inr (Or.inr rfl))) qa_nil)) qe_int (nomark _)))
 (by exact (qss_one (by exact (qs_set (i := 2) nd rfl (by first | exact Or.inl rfl | exact Or.inr rfl) (by exact (qe_bin (fun _ => o_mod) (qe_bin (fun _ => o_add) (qe_bin (fun _ => o_mul) (qe_ix (qe_var (i := 0) rfl (by first | exact Or.inl rfl | exact Or.inr (Or.inl rfl) | exact Or.inr (Or.inr rfl))) (qe_bin (fun _ => o_mod) (qe_bin (fun _ => o_mul) (qe_var (i := 1) rfl (by first | exact Or.inl rfl | exact Or.inr (Or.inl rfl) | exact Or.inr (Or.inr rfl))) qe_int) (qe_callB (fun _ => q_len) rfl b_len boot_len (qa_cons (qe_var (i := 0) rfl (by first | exact Or.inl rfl | exact Or.inr (Or.inl rfl) | exact Or.inr (Or.inr rfl))) qa_nil))) (fun _ _ => rfl)) qe_int) (qe_bin (fun _ => o_mul) (qe_var (i := 1) rfl (by first | exact Or.inl rfl | exact Or.inr (Or.inl rfl) | exact Or.inr (Or.inr rfl))) qe_int)) qe_int))))))
 (by exact qss_nil)))
 (by exact (qss_one (by exact (qs_ret (by exact (qe_bin (fun _ => o_mod) (qe_bin (fun _ => o_mul) (qe_var (i := 2) rfl (by first | exact Or.inl rfl | exact Or.inr (Or.inl rfl) | exact Or.inr (Or.inr rfl))) (qe_var (i := 2) rfl (by first | exact Or.inl rfl | exact Or.inr (Or.inl rfl) | exact Or.inr (Or.inr rfl)))) qe_int)))))))))))
theorem fo_law_cell {f : Addr} {fd : FuncData} (c : Cls) (F : Fun K "_law_cell" "_law_cell" s_law_cell f fd) (b_len : mg "len" = none)  : FnOk P w K mg base (CX1 P w) 1 f fd ["_law_script", "_law_k"] (spUp K (sp_law_cell c)) :=
  fn2 F sc_law_cell (fun _ _ _ h => l_law_cell h) fun cdv A outer s H E hr F0 => ⟨rd_law_cell K c , d_law_cell c hr b_len, fun ds Q Ex h => r_law_cell  h⟩
theorem ok_law_cell {f : Addr} {fd : FuncData} (c : Cls) (F : Fun K "_law_cell" "_law_cell" s_law_cell f fd) (hm : mg "_law_cell" = some (.ref f)) (b_len : mg "len" = none)  : Fn2 P w K mg base "_law_cell" 1 ["_law_script", "_law_k"] (sp_law_cell c) :=
  ⟨f, fd, fo_law_cell c F  b_len , hm, F.kp, F.binds fun _ _ _ _ _ _ us hl => match us, hl with | [_, _], _ => rfl⟩
abbrev s_law_leaning_row : Stmt := top 19
theorem sc_law_leaning_row : FnScope ["_law_script", "_law_rows", "_law_rights", "_law_at", "_law_row", "_law_right", "_law_k", "_law_by"] ["_law_script", "_law_rows", "_law_rights", "_law_at"] (defScope s_law_leaning_row) := ⟨rfl, rfl, rfl, by decide +kernel, rfl, by decide +kernel, by decide +kernel⟩
theorem d_law_leaning_row {f : Addr} {cdv : Value} {A : Around} {outer : List Env} {s : Shared} {H : Hp} {E : XK} {F0 : Hp} (c : Cls) (hr : Room 1 (A.deeper (envOfC "_law_leaning_row" (defScope s_law_leaning_row) s.heap.objs.size f cdv))) (G_law_cell : Fn2 P w K mg base "_law_cell" 1 ["_law_script", "_law_k"] (sp_law_cell c)) (b_range : mg "range" = none) (b_len : mg "len" = none) (b_zip : mg "zip" = none) : QSs (cxOf (CX1 P w) P w K mg base ["_law_script", "_law_rows", "_law_rights", "_law_at", "_law_row", "_law_right", "_law_k", "_law_by"] "_law_leaning_row" (defScope s_law_leaning_row) f cdv A outer s H E) F0 H (defBody s_law_leaning_row) (rd_law_leaning_row K c ) := by
  have nd := sc_law_leaning_row.nd
  have hu : (A.deeper (envOfC "_law_leaning_row" (defScope s_law_leaning_row) s.heap.objs.size f cdv)).units + 21 < cLine := by have := hr.units; omega
  exact (qss_cons (by exact (qs_setF (i := 4) nd rfl (by first | exact Or.inl rfl | exact Or.inr rfl) (by exact (qf_rep (by exact (qf_lst (qa_cons qe_int qa_nil))) (qe_callB (fun _ => q_len) rfl b_len boot_len (qa_cons (qe_ix (qe_var (i := 1) rfl (by first | exact Or.inl rfl | exact Or.inr (Or.inl rfl) | exact Or.inr (Or.inr rfl))) qe_int (fun _ _ => rfl)) qa_nil))))))
 (by exact (qss_cons (by exact (qs_set (i := 5) nd rfl (by first | exact Or.inl rfl | exact Or.inr rfl) (by exact qe_int)))
 (by exact (qss_cons (by exact (qs_rng1 rfl rfl b_range (by exact (qa_cons (qe_callB (fun _ => q_len) rfl b_len boot_len (qa_cons (qe_var (i := 1) rfl (by first | exact Or.inl rfl | exact Or.inr (Or.inl rfl) | exact Or.inr (Or.inr rfl))) qa_nil)) qa_nil)) (by exact (qg_name (i := 6) nd rfl (by first | exact Or.inl rfl | exact Or.inr rfl)))
 (by exact (qss_one (by exact (qs_if (by exact (qt_cmp (fun _ => o_ne hu) (qe_var (i := 6) rfl (by first | exact Or.inl rfl | exact Or.inr (Or.inl rfl) | exact Or.inr (Or.inr rfl))) (qe_var (i := 3) rfl (by first | exact Or.inl rfl | exact Or.inr (Or.inl rfl) | exact Or.inr (Or.inr rfl))) (nomark _)))
 (by exact (qss_cons (by exact (qs_set (i := 7) nd rfl (by first | exact Or.inl rfl | exact Or.inr rfl) (by exact (qe_bin (fun _ => o_sub) (qe_bin (fun _ => o_mod) (qe_callF G_law_cell (hr.mono (by decide)) rfl (qa_cons (qe_var (i := 0) rfl (by first | exact Or.inl rfl | exact Or.inr (Or.inl rfl) | exact Or.inr (Or.inr rfl))) (qa_cons (qe_bin (fun _ => o_add) qe_int (qe_var (i := 6) rfl (by first | exact Or.inl rfl | exact Or.inr (Or.inl rfl) | exact Or.inr (Or.inr rfl)))) qa_nil))) qe_int) qe_int))))
 (by exact (qss_cons (by exact (qs_setC (i := 4) nd rfl rfl (own := ["_law_one", "_law_other"]) (N' := ["_law_one", "_law_other", "_law_by"]) (by show CpOk ["_law_script", "_law_rows", "_law_rights", "_law_at", "_law_row", "_law_right", "_law_k", "_law_by"] _ ["_law_one", "_law_other"] [7] (defScope s_law_leaning_row) ["_law_one", "_law_other", "_law_by"]; exact ⟨rfl, by decide +kernel, by decide +kernel, by decide +kernel, rfl, by decide +kernel⟩) rfl (by exact (qic (qi_zip rfl rfl b_zip (qa_cons (qe_var (i := 4) rfl (by first | exact Or.inl rfl | exact Or.inr (Or.inl rfl) | exact Or.inr (Or.inr rfl))) (qa_cons (qe_ix (qe_var (i := 1) rfl (by first | exact Or.inl rfl | exact Or.inr (Or.inl rfl) | exact Or.inr (Or.inr rfl))) (qe_var (i := 6) rfl (by first | exact Or.inl rfl | exact Or.inr (Or.inl rfl) | exact Or.inr (Or.inr rfl))) (fun _ _ => rfl)) qa_nil))))) (fun C s₀ H₀ fp F0 H0 => by exact (qg_tup rfl (qgs_cons (qg_name (i := 0) (show (["_law_one", "_law_other", "_law_by"] : List Str).Nodup by decide +kernel) rfl (by first | exact Or.inl rfl | exact Or.inr rfl)) (qgs_cons (qg_name (i := 1) (show (["_law_one", "_law_other", "_law_by"] : List Str).Nodup by decide +kernel) rfl (by first | exact Or.inl rfl | exact Or.inr rfl)) qgs_nil)))) (fun C s₀ H₀ fp F0 H0 => by exact qts_nil) (fun C s₀ H₀ fp F0 H0 => by exact (qe_bin (fun _ => o_add) (qe_var (i := 0) rfl (by first | exact Or.inl rfl | exact Or.inr (Or.inl rfl) | exact Or.inr (Or.inr rfl))) (qe_bin (fun _ => o_mul) (qe_var (i := 2) rfl (by first | exact Or.inl rfl | exact Or.inr (Or.inl rfl) | exact Or.inr (Or.inr rfl))) (qe_var (i := 1) rfl (by first | exact Or.inl rfl | exact Or.inr (Or.inl rfl) | exact Or.inr (Or.inr rfl))))))))
 (by exact (qss_one (by exact (qs_set (i := 5) nd rfl (by first | exact Or.inl rfl | exact Or.inr rfl) (by exact (qe_bin (fun _ => o_add) (qe_var (i := 5) rfl (by first | exact Or.inl rfl | exact Or.inr (Or.inl rfl) | exact Or.inr (Or.inr rfl))) (qe_bin (fun _ => o_mul) (qe_var (i := 7) rfl (by first | exact Or.inl rfl | exact Or.inr (Or.inl rfl) | exact Or.inr (Or.inr rfl))) (qe_ix (qe_var (i := 2) rfl (by first | exact Or.inl rfl | exact Or.inr (Or.inl rfl) | exact Or.inr (Or.inr rfl))) (qe_var (i := 6) rfl (by first | exact Or.inl rfl | exact Or.inr (Or.inl rfl) | exact Or.inr (Or.inr rfl))) (fun _ _ => rfl)))))))))))))
 (by exact qss_nil)))))))
 (by exact (qss_one (by exact (qs_retR (by exact (qr_tup (qra_cons (qr_own (i := 4) rfl (by first | exact Or.inl rfl | exact Or.inr (Or.inl rfl) | exact Or.inr (Or.inr rfl))) (qra_cons (qr_val (qe_var (i := 5) rfl (by first | exact Or.inl rfl | exact Or.inr (Or.inl rfl) | exact Or.inr (Or.inr rfl)))) qra_nil)))))))))))))
theorem fo_law_leaning_row {f : Addr} {fd : FuncData} (c : Cls) (F : Fun K "_law_leaning_row" "_law_leaning_row" s_law_leaning_row f fd) (G_law_cell : Fn2 P w K mg base "_law_cell" 1 ["_law_script", "_law_k"] (sp_law_cell c)) (b_range : mg "range" = none) (b_len : mg "len" = none) (b_zip : mg "zip" = none)  : FnOk P w K mg base (CX1 P w) 2 f fd ["_law_script", "_law_rows", "_law_rights", "_law_at"] (spUpR K (sp_law_leaning_row c)) :=
  fn2R F sc_law_leaning_row (fun _ _ _ h => l_law_leaning_row h) fun cdv A outer s H E hr F0 => ⟨rd_law_leaning_row K c , d_law_leaning_row c hr G_law_cell b_range b_len b_zip, fun ds Q Ex h => r_law_leaning_row  h⟩
theorem ok_law_leaning_row {f : Addr} {fd : FuncData} (c : Cls) (F : Fun K "_law_leaning_row" "_law_leaning_row" s_law_leaning_row f fd) (hm : mg "_law_leaning_row" = some (.ref f)) (G_law_cell : Fn2 P w K mg base "_law_cell" 1 ["_law_script", "_law_k"] (sp_law_cell c)) (b_range : mg "range" = none) (b_len : mg "len" = none) (b_zip : mg "zip" = none)  : Fn2R P w K mg base "_law_leaning_row" 2 ["_law_script", "_law_rows", "_law_rights", "_law_at"] (sp_law_leaning_row c) :=
  ⟨f, fd, fo_law_leaning_row c F  G_law_cell b_range b_len b_zip , hm, F.kp, F.binds fun _ _ _ _ _ _ us hl => match us, hl with | [_, _, _, _], _ => rfl⟩
abbrev s_law_diagonal : Stmt := top 20
theorem sc_law_diagonal : FnScope ["_law_script", "_law_many", "_law_rows", "_law_rights", "_law_due", "_law_turn", "_law_k", "_law_own", "_law_entry", "_law_one"] ["_law_script", "_law_many"] (defScope s_law_diagonal) := ⟨rfl, rfl, rfl, by decide +kernel, rfl, by decide +kernel, by decide +kernel⟩
theorem d_law_diagonal {f : Addr} {cdv : Value} {A : Around} {outer : List Env} {s : Shared} {H : Hp} {E : XK} {F0 : Hp} (c : Cls) (hr : Room 1 (A.deeper (envOfC "_law_diagonal" (defScope s_law_diagonal) s.heap.objs.size f cdv))) (G_law_cell : Fn2 P w K mg base "_law_cell" 1 ["_law_script", "_law_k"] (sp_law_cell c)) (b_range : mg "range" = none) (b_sorted : mg "sorted" = none) (b_int : mg "int" = none) : QSs (cxOf (CX1 P w) P w K mg base ["_law_script", "_law_many", "_law_rows", "_law_rights", "_law_due", "_law_turn", "_law_k", "_law_own", "_law_entry", "_law_one"] "_law_diagonal" (defScope s_law_diagonal) f cdv A outer s H E) F0 H (defBody s_law_diagonal) (rd_law_diagonal K c ) := by
  have nd := sc_law_diagonal.nd
  have hu : (A.deeper (envOfC "_law_diagonal" (defScope s_law_diagonal) s.heap.objs.size f cdv)).units + 21 < cLine := by have := hr.units; omega
  exact (qss_cons (by exact (qs_setF (i := 2) nd rfl (by first | exact Or.inl rfl | exact Or.inr rfl) (by exact (qf_lst qa_nil))))
 (by exact (qss_cons (by exact (qs_setF (i := 3) nd rfl (by first | exact Or.inl rfl | exact Or.inr rfl) (by exact (qf_lst qa_nil))))
 (by exact (qss_cons (by exact (qs_setF (i := 4) nd rfl (by first | exact Or.inl rfl | exact Or.inr rfl) (by exact (qf_lst qa_nil))))
 (by exact (qss_cons (by exact (qs_set (i := 5) nd rfl (by first | exact Or.inl rfl | exact Or.inr rfl) (by exact (qe_bin (fun _ => o_mod) (qe_callF G_law_cell (hr.mono (by decide)) rfl (qa_cons (qe_var (i := 0) rfl (by first | exact Or.inl rfl | exact Or.inr (Or.inl rfl) | exact Or.inr (Or.inr rfl))) (qa_cons qe_int qa_nil))) (qe_var (i := 1) rfl (by first | exact Or.inl rfl | exact Or.inr (Or.inl rfl) | exact Or.inr (Or.inr rfl)))))))
 (by exact (qss_cons (by exact (qs_rng1 rfl rfl b_range (by exact (qa_cons (qe_var (i := 1) rfl (by first | exact Or.inl rfl | exact Or.inr (Or.inl rfl) | exact Or.inr (Or.inr rfl))) qa_nil)) (by exact (qg_name (i := 6) nd rfl (by first | exact Or.inl rfl | exact Or.inr rfl)))
 (by exact (qss_cons (by exact (qs_set (i := 7) nd rfl (by first | exact Or.inl rfl | exact Or.inr rfl) (by exact (qe_bin (fun _ => o_mod) (qe_bin (fun _ => o_add) (qe_var (i := 6) rfl (by first | exact Or.inl rfl | exact Or.inr (Or.inl rfl) | exact Or.inr (Or.inr rfl))) (qe_var (i := 5) rfl (by first | exact Or.inl rfl | exact Or.inr (Or.inl rfl) | exact Or.inr (Or.inr rfl)))) (qe_var (i := 1) rfl (by first | exact Or.inl rfl | exact Or.inr (Or.inl rfl) | exact Or.inr (Or.inr rfl)))))))
 (by exact (qss_cons (by exact (qs_set (i := 8) nd rfl (by first | exact Or.inl rfl | exact Or.inr rfl) (by exact (qe_bin (fun _ => o_add) qe_int (qe_bin (fun _ => o_mod) (qe_callF G_law_cell (hr.mono (by decide)) rfl (qa_cons (qe_var (i := 0) rfl (by first | exact Or.inl rfl | exact Or.inr (Or.inl rfl) | exact Or.inr (Or.inr rfl))) (qa_cons (qe_bin (fun _ => o_add) qe_int (qe_var (i := 6) rfl (by first | exact Or.inl rfl | exact Or.inr (Or.inl rfl) | exact Or.inr (Or.inr rfl)))) qa_nil))) qe_int)))))
 (by exact (qss_cons (by exact (qs_set (i := 9) nd rfl (by first | exact Or.inl rfl | exact Or.inr rfl) (by exact (qe_bin (fun _ => o_sub) (qe_bin (fun _ => o_mod) (qe_callF G_law_cell (hr.mono (by decide)) rfl (qa_cons (qe_var (i := 0) rfl (by first | exact Or.inl rfl | exact Or.inr (Or.inl rfl) | exact Or.inr (Or.inr rfl))) (qa_cons (qe_bin (fun _ => o_add) qe_int (qe_var (i := 6) rfl (by first | exact Or.inl rfl | exact Or.inr (Or.inl rfl) | exact Or.inr (Or.inr rfl)))) qa_nil))) qe_int) qe_int))))
 (by exact (qss_cons (by exact (qs_own (i := 2) (fun _ => ow_append) PySem.F.slot_list_append PySem.F.type_list_append rfl (by first | exact Or.inl rfl | exact Or.inr (Or.inl rfl) | exact Or.inr (Or.inr rfl)) (by exact (qa_cons (qe_of (by exact (qf_comp (own := ["_law_j"]) (N' := ["_law_j", "_law_own", "_law_entry"]) (by show CpOk ["_law_script", "_law_many", "_law_rows", "_law_rights", "_law_due", "_law_turn", "_law_k", "_law_own", "_law_entry", "_law_one"] _ ["_law_j"] [7, 8] (defScope s_law_diagonal) ["_law_j", "_law_own", "_law_entry"]; exact ⟨rfl, by decide +kernel, by decide +kernel, by decide +kernel, rfl, by decide +kernel⟩) rfl (by exact (qic (qi_rng1 rfl b_range (qa_cons (qe_var (i := 1) rfl (by first | exact Or.inl rfl | exact Or.inr (Or.inl rfl) | exact Or.inr (Or.inr rfl))) qa_nil)))) (fun C s₀ H₀ fp F0 H0 => by exact (qg_name (i := 0) (show (["_law_j", "_law_own", "_law_entry"] : List Str).Nodup by decide +kernel) rfl (by first | exact Or.inl rfl | exact Or.inr rfl))) (fun C s₀ H₀ fp F0 H0 => by exact qts_nil) (fun C s₀ H₀ fp F0 H0 => by exact (qe_tup (qa_cons (qe_bin (fun _ => o_mul) (qe_var (i := 2) rfl (by first | exact Or.inl rfl | exact Or.inr (Or.inl rfl) | exact Or.inr (Or.inr rfl))) (qe_callT (fun _ => q_int) rfl b_int boot_int (qa_cons (qe_cmp (fun _ => o_eq hu) (qe_var (i := 0) rfl (by first | exact Or.inl rfl | exact Or.inr (Or.inl rfl) | exact Or.inr (Or.inr rfl))) (qe_var (i := 1) rfl (by first | exact Or.inl rfl | exact Or.inr (Or.inl rfl) | exact Or.inr (Or.inr rfl))) (nomark _)) qa_nil))) (qa_cons qe_int qa_nil))))))) qa_nil))))
 (by exact (qss_cons (by exact (qs_own (i := 3) (fun _ => ow_append) PySem.F.slot_list_append PySem.F.type_list_append rfl (by first | exact Or.inl rfl | exact Or.inr (Or.inl rfl) | exact Or.inr (Or.inr rfl)) (by exact (qa_cons (qe_tup (qa_cons (qe_bin (fun _ => o_mul) (qe_var (i := 8) rfl (by first | exact Or.inl rfl | exact Or.inr (Or.inl rfl) | exact Or.inr (Or.inr rfl))) (qe_var (i := 9) rfl (by first | exact Or.inl rfl | exact Or.inr (Or.inl rfl) | exact Or.inr (Or.inr rfl)))) (qa_cons qe_int qa_nil))) qa_nil))))
 (by exact (qss_one (by exact (qs_own (i := 4) (fun _ => ow_append) PySem.F.slot_list_append PySem.F.type_list_append rfl (by first | exact Or.inl rfl | exact Or.inr (Or.inl rfl) | exact Or.inr (Or.inr rfl)) (by exact (qa_cons (qe_tup (qa_cons (qe_var (i := 7) rfl (by first | exact Or.inl rfl | exact Or.inr (Or.inl rfl) | exact Or.inr (Or.inr rfl))) (qa_cons (qe_tup (qa_cons (qe_var (i := 9) rfl (by first | exact Or.inl rfl | exact Or.inr (Or.inl rfl) | exact Or.inr (Or.inr rfl))) (qa_cons qe_int qa_nil))) qa_nil))) qa_nil))))))))))))))))))
 (by exact (qss_one (by exact (qs_ret (by exact (qe_tup (qa_cons (qe_var (i := 2) rfl (by first | exact Or.inl rfl | exact Or.inr (Or.inl rfl) | exact Or.inr (Or.inr rfl))) (qa_cons (qe_var (i := 3) rfl (by first | exact Or.inl rfl | exact Or.inr (Or.inl rfl) | exact Or.inr (Or.inr rfl))) (qa_cons (qe_of (by exact (qf_comp (own := ["_law_own", "_law_one"]) (N' := ["_law_own", "_law_one"]) (by show CpOk ["_law_script", "_law_many", "_law_rows", "_law_rights", "_law_due", "_law_turn", "_law_k", "_law_own", "_law_entry", "_law_one"] _ ["_law_own", "_law_one"] [] (defScope s_law_diagonal) ["_law_own", "_law_one"]; exact ⟨rfl, by decide +kernel, by decide +kernel, by decide +kernel, rfl, by decide +kernel⟩) rfl (by exact (qic (qi_seq (qe_of (by exact (qf_callB (fun _ => q_sortedT) rfl b_sorted boot_sorted (qa_cons (qe_var (i := 4) rfl (by first | exact Or.inl rfl | exact Or.inr (Or.inl rfl) | exact Or.inr (Or.inr rfl))) qa_nil))))))) (fun C s₀ H₀ fp F0 H0 => by exact (qg_tup rfl (qgs_cons (qg_name (i := 0) (show (["_law_own", "_law_one"] : List Str).Nodup by decide +kernel) rfl (by first | exact Or.inl rfl | exact Or.inr rfl)) (qgs_cons (qg_name (i := 1) (show (["_law_own", "_law_one"] : List Str).Nodup by decide +kernel) rfl (by first | exact Or.inl rfl | exact Or.inr rfl)) qgs_nil)))) (fun C s₀ H₀ fp F0 H0 => by exact qts_nil) (fun C s₀ H₀ fp F0 H0 => by exact (qe_var (i := 1) rfl (by first | exact Or.inl rfl | exact Or.inr (Or.inl rfl) | exact Or.inr (Or.inr rfl))))))) qa_nil))))))))))))))))))
theorem fo_law_diagonal {f : Addr} {fd : FuncData} (c : Cls) (F : Fun K "_law_diagonal" "_law_diagonal" s_law_diagonal f fd) (G_law_cell : Fn2 P w K mg base "_law_cell" 1 ["_law_script", "_law_k"] (sp_law_cell c)) (b_range : mg "range" = none) (b_sorted : mg "sorted" = none) (b_int : mg "int" = none)  : FnOk P w K mg base (CX1 P w) 2 f fd ["_law_script", "_law_many"] (spUp K (sp_law_diagonal c)) :=
  fn2 F sc_law_diagonal (fun _ _ _ h => l_law_diagonal h) fun cdv A outer s H E hr F0 => ⟨rd_law_diagonal K c , d_law_diagonal c hr G_law_cell b_range b_sorted b_int, fun ds Q Ex h => r_law_diagonal  h⟩
theorem ok_law_diagonal {f : Addr} {fd : FuncData} (c : Cls) (F : Fun K "_law_diagonal" "_law_diagonal" s_law_diagonal f fd) (hm : mg "_law_diagonal" = some (.ref f)) (G_law_cell : Fn2 P w K mg base "_law_cell" 1 ["_law_script", "_law_k"] (sp_law_cell c)) (b_range : mg "range" = none) (b_sorted : mg "sorted" = none) (b_int : mg "int" = none)  : Fn2 P w K mg base "_law_diagonal" 2 ["_law_script", "_law_many"] (sp_law_diagonal c) :=
  ⟨f, fd, fo_law_diagonal c F  G_law_cell b_range b_sorted b_int , hm, F.kp, F.binds fun _ _ _ _ _ _ us hl => match us, hl with | [_, _], _ => rfl⟩
abbrev s_divisor : Stmt := top 7
theorem sc_divisor : FnScope ["one", "other", "rest"] ["one", "other"] (defScope s_divisor) := ⟨rfl, rfl, rfl, by decide +kernel, rfl, by decide +kernel, by decide +kernel⟩
theorem d_divisor {f : Addr} {cdv : Value} {A : Around} {outer : List Env} {s : Shared} {H : Hp} {E : XK} {F0 : Hp} (c : Cls) (hr : Room 0 (A.deeper (envOfC "divisor" (defScope s_divisor) s.heap.objs.size f cdv))) (b_abs : mg "abs" = none) : QSs (cxOf (CX1 P w) P w K mg base ["one", "other", "rest"] "divisor" (defScope s_divisor) f cdv A outer s H E) F0 H (defBody s_divisor) (rd_divisor K c ) := by
  have nd := sc_divisor.nd
  have hu : (A.deeper (envOfC "divisor" (defScope s_divisor) s.heap.objs.size f cdv)).units + 21 < cLine := by have := hr.units; omega
  exact (qss_cons (by exact (qs_while (by exact (qt_cmp (fun _ => o_ne hu) (qe_var (i := 1) rfl (by first | exact Or.inl rfl | exact Or.inr (Or.inl rfl) | exact Or.inr (Or.inr rfl))) qe_int (nomark _)))
 (by exact (qss_cons (by exact (qs_set (i := 2) nd rfl (by first | exact Or.inl rfl | exact Or.inr rfl) (by exact (qe_bin (fun _ => o_mod) (qe_var (i := 0) rfl (by first | exact Or.inl rfl | exact Or.inr (Or.inl rfl) | exact Or.inr (Or.inr rfl))) (qe_var (i := 1) rfl (by first | exact Or.inl rfl | exact Or.inr (Or.inl rfl) | exact Or.inr (Or.inr rfl)))))))
 (by exact (qss_cons (by exact (qs_set (i := 0) nd rfl (by first | exact Or.inl rfl | exact Or.inr rfl) (by exact (qe_var (i := 1) rfl (by first | exact Or.inl rfl | exact Or.inr (Or.inl rfl) | exact Or.inr (Or.inr rfl))))))
 (by exact (qss_one (by exact (qs_set (i := 1) nd rfl (by first | exact Or.inl rfl | exact Or.inr rfl) (by exact (qe_var (i := 2) rfl (by first | exact Or.inl rfl | exact Or.inr (Or.inl rfl) | exact Or.inr (Or.inr rfl))))))))))))))
 (by exact (qss_one (by exact (qs_ret (by exact (qe_callB (fun _ => q_abs) rfl b_abs boot_abs (qa_cons (qe_var (i := 0) rfl (by first | exact Or.inl rfl | exact Or.inr (Or.inl rfl) | exact Or.inr (Or.inr rfl))) qa_nil))))))))
theorem fo_divisor {f : Addr} {fd : FuncData} (c : Cls) (F : Fun K "divisor" "divisor" s_divisor f fd) (b_abs : mg "abs" = none)  : FnOk P w K mg base (CX1 P w) 1 f fd ["one", "other"] (spUp K (sp_divisor c)) :=
  fn2 F sc_divisor (fun _ _ _ h => l_divisor h) fun cdv A outer s H E hr F0 => ⟨rd_divisor K c , d_divisor c hr b_abs, fun ds Q Ex h => r_divisor  h⟩
theorem ok_divisor {f : Addr} {fd : FuncData} (c : Cls) (F : Fun K "divisor" "divisor" s_divisor f fd) (hm : mg "divisor" = some (.ref f)) (b_abs : mg "abs" = none)  : Fn2 P w K mg base "divisor" 1 ["one", "other"] (sp_divisor c) :=
  ⟨f, fd, fo_divisor c F  b_abs , hm, F.kp, F.binds fun _ _ _ _ _ _ us hl => match us, hl with | [_, _], _ => rfl⟩
abbrev s_whole_row : Stmt := top 11
theorem sc_whole_row : FnScope ["row", "multiple", "part"] ["row"] (defScope s_whole_row) := ⟨rfl, rfl, rfl, by decide +kernel, rfl, by decide +kernel, by decide +kernel⟩
theorem d_whole_row {f : Addr} {cdv : Value} {A : Around} {outer : List Env} {s : Shared} {H : Hp} {E : XK} {F0 : Hp} (c : Cls) (hr : Room 1 (A.deeper (envOfC "whole_row" (defScope s_whole_row) s.heap.objs.size f cdv))) (G_divisor : Fn2 P w K mg base "divisor" 1 ["one", "other"] (sp_divisor c)) : QSs (cxOf (CX1 P w) P w K mg base ["row", "multiple", "part"] "whole_row" (defScope s_whole_row) f cdv A outer s H E) F0 H (defBody s_whole_row) (rd_whole_row K c ) := by
  have nd := sc_whole_row.nd
  have hu : (A.deeper (envOfC "whole_row" (defScope s_whole_row) s.heap.objs.size f cdv)).units + 21 < cLine := by have := hr.units; omega
  exact (qss_cons (by exact (qs_set (i := 1) nd rfl (by first | exact Or.inl rfl | exact Or.inr rfl) (by exact qe_int)))
 (by exact (qss_cons (by exact (qs_for rfl (by exact (qe_var (i := 0) rfl (by first | exact Or.inl rfl | exact Or.inr (Or.inl rfl) | exact Or.inr (Or.inr rfl)))) (by exact (qg_name (i := 2) nd rfl (by first | exact Or.inl rfl | exact Or.inr rfl)))
 (by exact (qss_one (by exact (qs_set (i := 1) nd rfl (by first | exact Or.inl rfl | exact Or.inr rfl) (by exact (qe_bin (fun _ => o_mul) (qe_var (i := 1) rfl (by first | exact Or.inl rfl | exact Or.inr (Or.inl rfl) | exact Or.inr (Or.inr rfl))) (qe_bin (fun _ => o_div) (qe_ix (qe_var (i := 2) rfl (by first | exact Or.inl rfl | exact Or.inr (Or.inl rfl) | exact Or.inr (Or.inr rfl))) qe_int (fun _ _ => rfl)) (qe_callF G_divisor (hr.mono (by decide)) rfl (qa_cons (qe_var (i := 1) rfl (by first | exact Or.inl rfl | exact Or.inr (Or.inl rfl) | exact Or.inr (Or.inr rfl))) (qa_cons (qe_ix (qe_var (i := 2) rfl (by first | exact Or.inl rfl | exact Or.inr (Or.inl rfl) | exact Or.inr (Or.inr rfl))) qe_int (fun _ _ => rfl)) qa_nil))))))))))))
 (by exact (qss_one (by exact (qs_ret (by exact (qe_of (by exact (qf_comp (own := ["part"]) (N' := ["part", "multiple"]) (by show CpOk ["row", "multiple", "part"] _ ["part"] [1] (defScope s_whole_row) ["part", "multiple"]; exact ⟨rfl, by decide +kernel, by decide +kernel, by decide +kernel, rfl, by decide +kernel⟩) rfl (by exact (qic (qi_seq (qe_var (i := 0) rfl (by first | exact Or.inl rfl | exact Or.inr (Or.inl rfl) | exact Or.inr (Or.inr rfl)))))) (fun C s₀ H₀ fp F0 H0 => by exact (qg_name (i := 0) (show (["part", "multiple"] : List Str).Nodup by decide +kernel) rfl (by first | exact Or.inl rfl | exact Or.inr rfl))) (fun C s₀ H₀ fp F0 H0 => by exact qts_nil) (fun C s₀ H₀ fp F0 H0 => by exact (qe_bin (fun _ => o_mul) (qe_ix (qe_var (i := 0) rfl (by first | exact Or.inl rfl | exact Or.inr (Or.inl rfl) | exact Or.inr (Or.inr rfl))) qe_int (fun _ _ => rfl)) (qe_bin (fun _ => o_div) (qe_var (i := 1) rfl (by first | exact Or.inl rfl | exact Or.inr (Or.inl rfl) | exact Or.inr (Or.inr rfl))) (qe_ix (qe_var (i := 0) rfl (by first | exact Or.inl rfl | exact Or.inr (Or.inl rfl) | exact Or.inr (Or.inr rfl))) qe_int (fun _ _ => rfl))))))))))))))))
theorem fo_whole_row {f : Addr} {fd : FuncData} (c : Cls) (F : Fun K "whole_row" "whole_row" s_whole_row f fd) (G_divisor : Fn2 P w K mg base "divisor" 1 ["one", "other"] (sp_divisor c))  : FnOk P w K mg base (CX1 P w) 2 f fd ["row"] (spUp K (sp_whole_row c)) :=
  fn2 F sc_whole_row (fun _ _ _ h => l_whole_row h) fun cdv A outer s H E hr F0 => ⟨rd_whole_row K c , d_whole_row c hr G_divisor, fun ds Q Ex h => r_whole_row  h⟩
theorem ok_whole_row {f : Addr} {fd : FuncData} (c : Cls) (F : Fun K "whole_row" "whole_row" s_whole_row f fd) (hm : mg "whole_row" = some (.ref f)) (G_divisor : Fn2 P w K mg base "divisor" 1 ["one", "other"] (sp_divisor c))  : Fn2 P w K mg base "whole_row" 2 ["row"] (sp_whole_row c) :=
  ⟨f, fd, fo_whole_row c F  G_divisor , hm, F.kp, F.binds fun _ _ _ _ _ _ us hl => match us, hl with | [_], _ => rfl⟩
abbrev s_without : Stmt := top 15
theorem sc_without : FnScope ["row", "lead", "place", "ahead"] ["row", "lead", "place", "ahead"] (defScope s_without) := ⟨rfl, rfl, rfl, by decide +kernel, rfl, by decide +kernel, by decide +kernel⟩
theorem d_without {f : Addr} {cdv : Value} {A : Around} {outer : List Env} {s : Shared} {H : Hp} {E : XK} {F0 : Hp} (c : Cls) (hr : Room 0 (A.deeper (envOfC "without" (defScope s_without) s.heap.objs.size f cdv))) (b_zip : mg "zip" = none) : QSs (cxOf (CX1 P w) P w K mg base ["row", "lead", "place", "ahead"] "without" (defScope s_without) f cdv A outer s H E) F0 H (defBody s_without) (rd_without K c ) := by
  have nd := sc_without.nd
  have hu : (A.deeper (envOfC "without" (defScope s_without) s.heap.objs.size f cdv)).units + 21 < cLine := by have := hr.units; omega
  exact (qss_one (by exact (qs_ret (by exact (qe_of (by exact (qf_comp (own := ["part", "head"]) (N' := ["part", "head", "row", "lead", "place", "ahead"]) (by show CpOk ["row", "lead", "place", "ahead"] _ ["part", "head"] [0, 1, 2, 3] (defScope s_without) ["part", "head", "row", "lead", "place", "ahead"]; exact ⟨rfl, by decide +kernel, by decide +kernel, by decide +kernel, rfl, by decide +kernel⟩) rfl (by exact (qic (qi_zip rfl rfl b_zip (qa_cons (qe_var (i := 0) rfl (by first | exact Or.inl rfl | exact Or.inr (Or.inl rfl) | exact Or.inr (Or.inr rfl))) (qa_cons (qe_var (i := 1) rfl (by first | exact Or.inl rfl | exact Or.inr (Or.inl rfl) | exact Or.inr (Or.inr rfl))) qa_nil))))) (fun C s₀ H₀ fp F0 H0 => by exact (qg_tup rfl (qgs_cons (qg_name (i := 0) (show (["part", "head", "row", "lead", "place", "ahead"] : List Str).Nodup by decide +kernel) rfl (by first | exact Or.inl rfl | exact Or.inr rfl)) (qgs_cons (qg_name (i := 1) (show (["part", "head", "row", "lead", "place", "ahead"] : List Str).Nodup by decide +kernel) rfl (by first | exact Or.inl rfl | exact Or.inr rfl)) qgs_nil)))) (fun C s₀ H₀ fp F0 H0 => by exact qts_nil) (fun C s₀ H₀ fp F0 H0 => by exact (qe_bin (fun _ => o_div) (qe_bin (fun _ => o_sub) (qe_bin (fun _ => o_mul) (qe_ix (qe_var (i := 3) rfl (by first | exact Or.inl rfl | exact Or.inr (Or.inl rfl) | exact Or.inr (Or.inr rfl))) (qe_var (i := 4) rfl (by first | exact Or.inl rfl | exact Or.inr (Or.inl rfl) | exact Or.inr (Or.inr rfl))) (fun _ _ => rfl)) (qe_var (i := 0) rfl (by first | exact Or.inl rfl | exact Or.inr (Or.inl rfl) | exact Or.inr (Or.inr rfl)))) (qe_bin (fun _ => o_mul) (qe_ix (qe_var (i := 2) rfl (by first | exact Or.inl rfl | exact Or.inr (Or.inl rfl) | exact Or.inr (Or.inr rfl))) (qe_var (i := 4) rfl (by first | exact Or.inl rfl | exact Or.inr (Or.inl rfl) | exact Or.inr (Or.inr rfl))) (fun _ _ => rfl)) (qe_var (i := 1) rfl (by first | exact Or.inl rfl | exact Or.inr (Or.inl rfl) | exact Or.inr (Or.inr rfl))))) (qe_var (i := 5) rfl (by first | exact Or.inl rfl | exact Or.inr (Or.inl rfl) | exact Or.inr (Or.inr rfl))))))))))))
theorem fo_without {f : Addr} {fd : FuncData} (c : Cls) (F : Fun K "without" "without" s_without f fd) (b_zip : mg "zip" = none)  : FnOk P w K mg base (CX1 P w) 1 f fd ["row", "lead", "place", "ahead"] (spUp K (sp_without c)) :=
  fn2 F sc_without (fun _ _ _ h => l_without h) fun cdv A outer s H E hr F0 => ⟨rd_without K c , d_without c hr b_zip, fun ds Q Ex h => r_without  h⟩
theorem ok_without {f : Addr} {fd : FuncData} (c : Cls) (F : Fun K "without" "without" s_without f fd) (hm : mg "without" = some (.ref f)) (b_zip : mg "zip" = none)  : Fn2 P w K mg base "without" 1 ["row", "lead", "place", "ahead"] (sp_without c) :=
  ⟨f, fd, fo_without c F  b_zip , hm, F.kp, F.binds fun _ _ _ _ _ _ us hl => match us, hl with | [_, _, _, _], _ => rfl⟩
abbrev s_cleared : Stmt := top 14
theorem sc_cleared : FnScope ["table", "place", "ahead", "lead"] ["table", "place", "ahead"] (defScope s_cleared) := ⟨rfl, rfl, rfl, by decide +kernel, rfl, by decide +kernel, by decide +kernel⟩
theorem d_cleared {f : Addr} {cdv : Value} {A : Around} {outer : List Env} {s : Shared} {H : Hp} {E : XK} {F0 : Hp} (c : Cls) (hr : Room 1 (A.deeper (envOfC "cleared" (defScope s_cleared) s.heap.objs.size f cdv))) (G_without : Fn2 P w K mg base "without" 1 ["row", "lead", "place", "ahead"] (sp_without c)) (b_enumerate : mg "enumerate" = none) : QSs (cxOf (CX1 P w) P w K mg base ["table", "place", "ahead", "lead"] "cleared" (defScope s_cleared) f cdv A outer s H E) F0 H (defBody s_cleared) (rd_cleared K c ) := by
  have nd := sc_cleared.nd
  have hu : (A.deeper (envOfC "cleared" (defScope s_cleared) s.heap.objs.size f cdv)).units + 21 < cLine := by have := hr.units; omega
  exact (qss_cons (by exact (qs_set (i := 3) nd rfl (by first | exact Or.inl rfl | exact Or.inr rfl) (by exact (qe_ix (qe_var (i := 0) rfl (by first | exact Or.inl rfl | exact Or.inr (Or.inl rfl) | exact Or.inr (Or.inr rfl))) (qe_var (i := 1) rfl (by first | exact Or.inl rfl | exact Or.inr (Or.inl rfl) | exact Or.inr (Or.inr rfl))) (fun _ _ => rfl)))))
 (by exact (qss_one (by exact (qs_ret (by exact (qe_of (by exact (qf_comp (own := ["spot", "row"]) (N' := ["spot", "row", "place", "ahead", "lead"]) (by show CpOk ["table", "place", "ahead", "lead"] _ ["spot", "row"] [1, 2, 3] (defScope s_cleared) ["spot", "row", "place", "ahead", "lead"]; exact ⟨rfl, by decide +kernel, by decide +kernel, by decide +kernel, rfl, by decide +kernel⟩) rfl (by exact (qic (qi_enumerate rfl rfl b_enumerate (qa_cons (qe_var (i := 0) rfl (by first | exact Or.inl rfl | exact Or.inr (Or.inl rfl) | exact Or.inr (Or.inr rfl))) qa_nil)))) (fun C s₀ H₀ fp F0 H0 => by exact (qg_tup rfl (qgs_cons (qg_name (i := 0) (show (["spot", "row", "place", "ahead", "lead"] : List Str).Nodup by decide +kernel) rfl (by first | exact Or.inl rfl | exact Or.inr rfl)) (qgs_cons (qg_name (i := 1) (show (["spot", "row", "place", "ahead", "lead"] : List Str).Nodup by decide +kernel) rfl (by first | exact Or.inl rfl | exact Or.inr rfl)) qgs_nil)))) (fun C s₀ H₀ fp F0 H0 => by exact qts_nil) (fun C s₀ H₀ fp F0 H0 => by exact (qe_if (qt_cmp (fun _ => o_eq hu) (qe_var (i := 0) rfl (by first | exact Or.inl rfl | exact Or.inr (Or.inl rfl) | exact Or.inr (Or.inr rfl))) (qe_var (i := 2) rfl (by first | exact Or.inl rfl | exact Or.inr (Or.inl rfl) | exact Or.inr (Or.inr rfl))) (nomark _)) (qe_var (i := 1) rfl (by first | exact Or.inl rfl | exact Or.inr (Or.inl rfl) | exact Or.inr (Or.inr rfl))) (qe_callF G_without (hr.mono (by decide)) rfl (qa_cons (qe_var (i := 1) rfl (by first | exact Or.inl rfl | exact Or.inr (Or.inl rfl) | exact Or.inr (Or.inr rfl))) (qa_cons (qe_var (i := 4) rfl (by first | exact Or.inl rfl | exact Or.inr (Or.inl rfl) | exact Or.inr (Or.inr rfl))) (qa_cons (qe_var (i := 2) rfl (by first | exact Or.inl rfl | exact Or.inr (Or.inl rfl) | exact Or.inr (Or.inr rfl))) (qa_cons (qe_var (i := 3) rfl (by first | exact Or.inl rfl | exact Or.inr (Or.inl rfl) | exact Or.inr (Or.inr rfl))) qa_nil))))))))))))))))
theorem fo_cleared {f : Addr} {fd : FuncData} (c : Cls) (F : Fun K "cleared" "cleared" s_cleared f fd) (G_without : Fn2 P w K mg base "without" 1 ["row", "lead", "place", "ahead"] (sp_without c)) (b_enumerate : mg "enumerate" = none)  : FnOk P w K mg base (CX1 P w) 2 f fd ["table", "place", "ahead"] (spUp K (sp_cleared c)) :=
  fn2 F sc_cleared (fun _ _ _ h => l_cleared h) fun cdv A outer s H E hr F0 => ⟨rd_cleared K c , d_cleared c hr G_without b_enumerate, fun ds Q Ex h => r_cleared  h⟩
theorem ok_cleared {f : Addr} {fd : FuncData} (c : Cls) (F : Fun K "cleared" "cleared" s_cleared f fd) (hm : mg "cleared" = some (.ref f)) (G_without : Fn2 P w K mg base "without" 1 ["row", "lead", "place", "ahead"] (sp_without c)) (b_enumerate : mg "enumerate" = none)  : Fn2 P w K mg base "cleared" 2 ["table", "place", "ahead"] (sp_cleared c) :=
  ⟨f, fd, fo_cleared c F  G_without b_enumerate , hm, F.kp, F.binds fun _ _ _ _ _ _ us hl => match us, hl with | [_, _, _], _ => rfl⟩
abbrev s_fraction : Stmt := top 8
theorem sc_fraction : FnScope ["top", "bottom", "common"] ["top", "bottom"] (defScope s_fraction) := ⟨rfl, rfl, rfl, by decide +kernel, rfl, by decide +kernel, by decide +kernel⟩
theorem d_fraction {f : Addr} {cdv : Value} {A : Around} {outer : List Env} {s : Shared} {H : Hp} {E : XK} {F0 : Hp} (c : Cls) (hr : Room 1 (A.deeper (envOfC "fraction" (defScope s_fraction) s.heap.objs.size f cdv))) (G_divisor : Fn2 P w K mg base "divisor" 1 ["one", "other"] (sp_divisor c)) (e_NoFraction : mg "NoFraction" = some (.ref c.NoFraction) ∧ ExcC K c.NoFraction) : QSs (cxOf (CX1 P w) P w K mg base ["top", "bottom", "common"] "fraction" (defScope s_fraction) f cdv A outer s H E) F0 H (defBody s_fraction) (rd_fraction K c ) := by
  have nd := sc_fraction.nd
  have hu : (A.deeper (envOfC "fraction" (defScope s_fraction) s.heap.objs.size f cdv)).units + 21 < cLine := by have := hr.units; omega
  exact (qss_cons (by exact (qs_if (by exact (qt_cmp (fun _ => o_eq hu) (qe_var (i := 1) rfl (by first | exact Or.inl rfl | exact Or.inr (Or.inl rfl) | exact Or.inr (Or.inr rfl))) qe_int (nomark _)))
 (by exact (qss_one (by exact (qs_raise rfl rfl e_NoFraction.1 e_NoFraction.2 (qa_cons qe_str qa_nil)))))
 (by exact qss_nil)))
 (by exact (qss_cons (by exact (qs_set (i := 2) nd rfl (by first | exact Or.inl rfl | exact Or.inr rfl) (by exact (qe_callF G_divisor (hr.mono (by decide)) rfl (qa_cons (qe_var (i := 0) rfl (by first | exact Or.inl rfl | exact Or.inr (Or.inl rfl) | exact Or.inr (Or.inr rfl))) (qa_cons (qe_var (i := 1) rfl (by first | exact Or.inl rfl | exact Or.inr (Or.inl rfl) | exact Or.inr (Or.inr rfl))) qa_nil))))))
 (by exact (qss_cons (by exact (qs_if (by exact (qt_cmp (fun _ => o_lt) (qe_var (i := 1) rfl (by first | exact Or.inl rfl | exact Or.inr (Or.inl rfl) | exact Or.inr (Or.inr rfl))) qe_int (nomark _)))
 (by exact (qss_one (by exact (qs_set (i := 2) nd rfl (by first | exact Or.inl rfl | exact Or.inr rfl) (by exact (qe_neg (qe_var (i := 2) rfl (by first | exact Or.inl rfl | exact Or.inr (Or.inl rfl) | exact Or.inr (Or.inr rfl)))))))))
 (by exact qss_nil)))
 (by exact (qss_one (by exact (qs_ret (by exact (qe_tup (qa_cons (qe_bin (fun _ => o_div) (qe_var (i := 0) rfl (by first | exact Or.inl rfl | exact Or.inr (Or.inl rfl) | exact Or.inr (Or.inr rfl))) (qe_var (i := 2) rfl (by first | exact Or.inl rfl | exact Or.inr (Or.inl rfl) | exact Or.inr (Or.inr rfl)))) (qa_cons (qe_bin (fun _ => o_div) (qe_var (i := 1) rfl (by first | exact Or.inl rfl | exact Or.inr (Or.inl rfl) | exact Or.inr (Or.inr rfl))) (qe_var (i := 2) rfl (by first | exact Or.inl rfl | exact Or.inr (Or.inl rfl) | exact Or.inr (Or.inr rfl)))) qa_nil)))))))))))))
theorem fo_fraction {f : Addr} {fd : FuncData} (c : Cls) (F : Fun K "fraction" "fraction" s_fraction f fd) (G_divisor : Fn2 P w K mg base "divisor" 1 ["one", "other"] (sp_divisor c)) (e_NoFraction : mg "NoFraction" = some (.ref c.NoFraction) ∧ ExcC K c.NoFraction)  : FnOk P w K mg base (CX1 P w) 2 f fd ["top", "bottom"] (spUp K (sp_fraction c)) :=
  fn2 F sc_fraction (fun _ _ _ h => l_fraction h) fun cdv A outer s H E hr F0 => ⟨rd_fraction K c , d_fraction c hr G_divisor e_NoFraction, fun ds Q Ex h => r_fraction  h⟩
theorem ok_fraction {f : Addr} {fd : FuncData} (c : Cls) (F : Fun K "fraction" "fraction" s_fraction f fd) (hm : mg "fraction" = some (.ref f)) (G_divisor : Fn2 P w K mg base "divisor" 1 ["one", "other"] (sp_divisor c)) (e_NoFraction : mg "NoFraction" = some (.ref c.NoFraction) ∧ ExcC K c.NoFraction)  : Fn2 P w K mg base "fraction" 2 ["top", "bottom"] (sp_fraction c) :=
  ⟨f, fd, fo_fraction c F  G_divisor e_NoFraction , hm, F.kp, F.binds fun _ _ _ _ _ _ us hl => match us, hl with | [_, _], _ => rfl⟩
abbrev s_exchanged : Stmt := top 13
theorem sc_exchanged : FnScope ["table", "place", "spot", "other"] ["table", "place", "spot"] (defScope s_exchanged) := ⟨rfl, rfl, rfl, by decide +kernel, rfl, by decide +kernel, by decide +kernel⟩
theorem d_exchanged {f : Addr} {cdv : Value} {A : Around} {outer : List Env} {s : Shared} {H : Hp} {E : XK} {F0 : Hp} (c : Cls) (hr : Room 0 (A.deeper (envOfC "exchanged" (defScope s_exchanged) s.heap.objs.size f cdv))) (b_list : mg "list" = none) : QSs (cxOf (CX1 P w) P w K mg base ["table", "place", "spot", "other"] "exchanged" (defScope s_exchanged) f cdv A outer s H E) F0 H (defBody s_exchanged) (rd_exchanged K c ) := by
  have nd := sc_exchanged.nd
  have hu : (A.deeper (envOfC "exchanged" (defScope s_exchanged) s.heap.objs.size f cdv)).units + 21 < cLine := by have := hr.units; omega
  exact (qss_cons (by exact (qs_setF (i := 3) nd rfl (by first | exact Or.inl rfl | exact Or.inr rfl) (by exact (qf_callT (fun _ => q_list) rfl b_list boot_list (qa_cons (qe_var (i := 0) rfl (by first | exact Or.inl rfl | exact Or.inr (Or.inl rfl) | exact Or.inr (Or.inr rfl))) qa_nil)))))
 (by exact (qss_cons (by exact (qs_put (i := 3) rfl (by first | exact Or.inl rfl | exact Or.inr (Or.inl rfl) | exact Or.inr (Or.inr rfl)) (by exact (qe_var (i := 1) rfl (by first | exact Or.inl rfl | exact Or.inr (Or.inl rfl) | exact Or.inr (Or.inr rfl)))) (by exact (qe_ix (qe_var (i := 0) rfl (by first | exact Or.inl rfl | exact Or.inr (Or.inl rfl) | exact Or.inr (Or.inr rfl))) (qe_var (i := 2) rfl (by first | exact Or.inl rfl | exact Or.inr (Or.inl rfl) | exact Or.inr (Or.inr rfl))) (fun _ _ => rfl)))))
 (by exact (qss_cons (by exact (qs_put (i := 3) rfl (by first | exact Or.inl rfl | exact Or.inr (Or.inl rfl) | exact Or.inr (Or.inr rfl)) (by exact (qe_var (i := 2) rfl (by first | exact Or.inl rfl | exact Or.inr (Or.inl rfl) | exact Or.inr (Or.inr rfl)))) (by exact (qe_ix (qe_var (i := 0) rfl (by first | exact Or.inl rfl | exact Or.inr (Or.inl rfl) | exact Or.inr (Or.inr rfl))) (qe_var (i := 1) rfl (by first | exact Or.inl rfl | exact Or.inr (Or.inl rfl) | exact Or.inr (Or.inr rfl))) (fun _ _ => rfl)))))
 (by exact (qss_one (by exact (qs_ret (by exact (qe_var (i := 3) rfl (by first | exact Or.inl rfl | exact Or.inr (Or.inl rfl) | exact Or.inr (Or.inr rfl)))))))))))))
theorem fo_exchanged {f : Addr} {fd : FuncData} (c : Cls) (F : Fun K "exchanged" "exchanged" s_exchanged f fd) (b_list : mg "list" = none)  : FnOk P w K mg base (CX1 P w) 1 f fd ["table", "place", "spot"] (spUp K (sp_exchanged c)) :=
  fn2 F sc_exchanged (fun _ _ _ h => l_exchanged h) fun cdv A outer s H E hr F0 => ⟨rd_exchanged K c , d_exchanged c hr b_list, fun ds Q Ex h => r_exchanged  h⟩
theorem ok_exchanged {f : Addr} {fd : FuncData} (c : Cls) (F : Fun K "exchanged" "exchanged" s_exchanged f fd) (hm : mg "exchanged" = some (.ref f)) (b_list : mg "list" = none)  : Fn2 P w K mg base "exchanged" 1 ["table", "place", "spot"] (sp_exchanged c) :=
  ⟨f, fd, fo_exchanged c F  b_list , hm, F.kp, F.binds fun _ _ _ _ _ _ us hl => match us, hl with | [_, _, _], _ => rfl⟩
abbrev s_led : Stmt := top 12
theorem sc_led : FnScope ["table", "place", "spot"] ["table", "place"] (defScope s_led) := ⟨rfl, rfl, rfl, by decide +kernel, rfl, by decide +kernel, by decide +kernel⟩
theorem d_led {f : Addr} {cdv : Value} {A : Around} {outer : List Env} {s : Shared} {H : Hp} {E : XK} {F0 : Hp} (c : Cls) (hr : Room 1 (A.deeper (envOfC "led" (defScope s_led) s.heap.objs.size f cdv))) (G_exchanged : Fn2 P w K mg base "exchanged" 1 ["table", "place", "spot"] (sp_exchanged c)) (b_range : mg "range" = none) (b_len : mg "len" = none) (e_NoAnswer : mg "NoAnswer" = some (.ref c.NoAnswer) ∧ ExcC K c.NoAnswer) : QSs (cxOf (CX1 P w) P w K mg base ["table", "place", "spot"] "led" (defScope s_led) f cdv A outer s H E) F0 H (defBody s_led) (rd_led K c ) := by
  have nd := sc_led.nd
  have hu : (A.deeper (envOfC "led" (defScope s_led) s.heap.objs.size f cdv)).units + 21 < cLine := by have := hr.units; omega
  exact (qss_cons (by exact (qs_rng2 rfl rfl b_range (by exact (qa_cons (qe_var (i := 1) rfl (by first | exact Or.inl rfl | exact Or.inr (Or.inl rfl) | exact Or.inr (Or.inr rfl))) (qa_cons (qe_callB (fun _ => q_len) rfl b_len boot_len (qa_cons (qe_var (i := 0) rfl (by first | exact Or.inl rfl | exact Or.inr (Or.inl rfl) | exact Or.inr (Or.inr rfl))) qa_nil)) qa_nil))) (by exact (qg_name (i := 2) nd rfl (by first | exact Or.inl rfl | exact Or.inr rfl)))
 (by exact (qss_one (by exact (qs_if (by exact (qt_cmp (fun _ => o_ne hu) (qe_ix (qe_ix (qe_var (i := 0) rfl (by first | exact Or.inl rfl | exact Or.inr (Or.inl rfl) | exact Or.inr (Or.inr rfl))) (qe_var (i := 2) rfl (by first | exact Or.inl rfl | exact Or.inr (Or.inl rfl) | exact Or.inr (Or.inr rfl))) (fun _ _ => rfl)) (qe_var (i := 1) rfl (by first | exact Or.inl rfl | exact Or.inr (Or.inl rfl) | exact Or.inr (Or.inr rfl))) (fun _ _ => rfl)) qe_int (nomark _)))
 (by exact (qss_one (by exact (qs_ret (by exact (qe_callF G_exchanged (hr.mono (by decide)) rfl (qa_cons (qe_var (i := 0) rfl (by first | exact Or.inl rfl | exact Or.inr (Or.inl rfl) | exact Or.inr (Or.inr rfl))) (qa_cons (qe_var (i := 1) rfl (by first | exact Or.inl rfl | exact Or.inr (Or.inl rfl) | exact Or.inr (Or.inr rfl))) (qa_cons (qe_var (i := 2) rfl (by first | exact Or.inl rfl | exact Or.inr (Or.inl rfl) | exact Or.inr (Or.inr rfl))) qa_nil)))))))))
 (by exact qss_nil)))))))
 (by exact (qss_one (by exact (qs_raise rfl rfl e_NoAnswer.1 e_NoAnswer.2 (qa_cons qe_str qa_nil))))))
theorem fo_led {f : Addr} {fd : FuncData} (c : Cls) (F : Fun K "led" "led" s_led f fd) (G_exchanged : Fn2 P w K mg base "exchanged" 1 ["table", "place", "spot"] (sp_exchanged c)) (b_range : mg "range" = none) (b_len : mg "len" = none) (e_NoAnswer : mg "NoAnswer" = some (.ref c.NoAnswer) ∧ ExcC K c.NoAnswer)  : FnOk P w K mg base (CX1 P w) 2 f fd ["table", "place"] (spUp K (sp_led c)) :=
  fn2 F sc_led (fun _ _ _ h => l_led h) fun cdv A outer s H E hr F0 => ⟨rd_led K c , d_led c hr G_exchanged b_range b_len e_NoAnswer, fun ds Q Ex h => r_led  h⟩
theorem ok_led {f : Addr} {fd : FuncData} (c : Cls) (F : Fun K "led" "led" s_led f fd) (hm : mg "led" = some (.ref f)) (G_exchanged : Fn2 P w K mg base "exchanged" 1 ["table", "place", "spot"] (sp_exchanged c)) (b_range : mg "range" = none) (b_len : mg "len" = none) (e_NoAnswer : mg "NoAnswer" = some (.ref c.NoAnswer) ∧ ExcC K c.NoAnswer)  : Fn2 P w K mg base "led" 2 ["table", "place"] (sp_led c) :=
  ⟨f, fd, fo_led c F  G_exchanged b_range b_len e_NoAnswer , hm, F.kp, F.binds fun _ _ _ _ _ _ us hl => match us, hl with | [_, _], _ => rfl⟩
abbrev s_solved : Stmt := top 10
theorem sc_solved : FnScope ["rows", "rights", "table", "ahead", "place"] ["rows", "rights"] (defScope s_solved) := ⟨rfl, rfl, rfl, by decide +kernel, rfl, by decide +kernel, by decide +kernel⟩
theorem d_solved {f : Addr} {cdv : Value} {A : Around} {outer : List Env} {s : Shared} {H : Hp} {E : XK} {F0 : Hp} (c : Cls) (hr : Room 2 (A.deeper (envOfC "solved" (defScope s_solved) s.heap.objs.size f cdv))) (G_whole_row : Fn2 P w K mg base "whole_row" 2 ["row"] (sp_whole_row c)) (G_cleared : Fn2 P w K mg base "cleared" 2 ["table", "place", "ahead"] (sp_cleared c)) (G_fraction : Fn2 P w K mg base "fraction" 2 ["top", "bottom"] (sp_fraction c)) (G_led : Fn2 P w K mg base "led" 2 ["table", "place"] (sp_led c)) (b_range : mg "range" = none) (b_len : mg "len" = none) (b_zip : mg "zip" = none) (b_enumerate : mg "enumerate" = none) : QSs (cxOf (CX1 P w) P w K mg base ["rows", "rights", "table", "ahead", "place"] "solved" (defScope s_solved) f cdv A outer s H E) F0 H (defBody s_solved) (rd_solved K c ) := by
  have nd := sc_solved.nd
  have hu : (A.deeper (envOfC "solved" (defScope s_solved) s.heap.objs.size f cdv)).units + 21 < cLine := by have := hr.units; omega
  exact (qss_cons (by exact (qs_frz (by exact (qs_setC (i := 2) nd rfl rfl (own := ["row", "right"]) (N' := ["row", "right"]) (by show CpOk ["rows", "rights", "table", "ahead", "place"] _ ["row", "right"] [] (defScope s_solved) ["row", "right"]; exact ⟨rfl, by decide +kernel, by decide +kernel, by decide +kernel, rfl, by decide +kernel⟩) rfl (by exact (qic (qi_zip rfl rfl b_zip (qa_cons (qe_var (i := 0) rfl (by first | exact Or.inl rfl | exact Or.inr (Or.inl rfl) | exact Or.inr (Or.inr rfl))) (qa_cons (qe_var (i := 1) rfl (by first | exact Or.inl rfl | exact Or.inr (Or.inl rfl) | exact Or.inr (Or.inr rfl))) qa_nil))))) (fun C s₀ H₀ fp F0 H0 => by exact (qg_tup rfl (qgs_cons (qg_name (i := 0) (show (["row", "right"] : List Str).Nodup by decide +kernel) rfl (by first | exact Or.inl rfl | exact Or.inr rfl)) (qgs_cons (qg_name (i := 1) (show (["row", "right"] : List Str).Nodup by decide +kernel) rfl (by first | exact Or.inl rfl | exact Or.inr rfl)) qgs_nil)))) (fun C s₀ H₀ fp F0 H0 => by exact qts_nil) (fun C s₀ H₀ fp F0 H0 => by exact (qe_callF G_whole_row (hr.mono (by decide)) rfl (qa_cons (qe_of (by exact (qf_cat (qe_var (i := 0) rfl (by first | exact Or.inl rfl | exact Or.inr (Or.inl rfl) | exact Or.inr (Or.inr rfl))) (qe_of (by exact (qf_lst (qa_cons (qe_var (i := 1) rfl (by first | exact Or.inl rfl | exact Or.inr (Or.inl rfl) | exact Or.inr (Or.inr rfl))) qa_nil))))))) qa_nil)))))))
 (by exact (qss_cons (by exact (qs_set (i := 3) nd rfl (by first | exact Or.inl rfl | exact Or.inr rfl) (by exact qe_int)))
 (by exact (qss_cons (by exact (qs_rng1 rfl rfl b_range (by exact (qa_cons (qe_callB (fun _ => q_len) rfl b_len boot_len (qa_cons (qe_var (i := 2) rfl (by first | exact Or.inl rfl | exact Or.inr (Or.inl rfl) | exact Or.inr (Or.inr rfl))) qa_nil)) qa_nil)) (by exact (qg_name (i := 4) nd rfl (by first | exact Or.inl rfl | exact Or.inr rfl)))
 (by exact (qss_cons (by exact (qs_set (i := 2) nd rfl (by first | exact Or.inl rfl | exact Or.inr rfl) (by exact (qe_callF G_cleared (hr.mono (by decide)) rfl (qa_cons (qe_callF G_led (hr.mono (by decide)) rfl (qa_cons (qe_var (i := 2) rfl (by first | exact Or.inl rfl | exact Or.inr (Or.inl rfl) | exact Or.inr (Or.inr rfl))) (qa_cons (qe_var (i := 4) rfl (by first | exact Or.inl rfl | exact Or.inr (Or.inl rfl) | exact Or.inr (Or.inr rfl))) qa_nil))) (qa_cons (qe_var (i := 4) rfl (by first | exact Or.inl rfl | exact Or.inr (Or.inl rfl) | exact Or.inr (Or.inr rfl))) (qa_cons (qe_var (i := 3) rfl (by first | exact Or.inl rfl | exact Or.inr (Or.inl rfl) | exact Or.inr (Or.inr rfl))) qa_nil)))))))
 (by exact (qss_one (by exact (qs_set (i := 3) nd rfl (by first | exact Or.inl rfl | exact Or.inr rfl) (by exact (qe_ix (qe_ix (qe_var (i := 2) rfl (by first | exact Or.inl rfl | exact Or.inr (Or.inl rfl) | exact Or.inr (Or.inr rfl))) (qe_var (i := 4) rfl (by first | exact Or.inl rfl | exact Or.inr (Or.inl rfl) | exact Or.inr (Or.inr rfl))) (fun _ _ => rfl)) (qe_var (i := 4) rfl (by first | exact Or.inl rfl | exact Or.inr (Or.inl rfl) | exact Or.inr (Or.inr rfl))) (fun _ _ => rfl)))))))))))
 (by exact (qss_one (by exact (qs_ret (by exact (qe_of (by exact (qf_comp (own := ["place", "row"]) (N' := ["place", "row"]) (by show CpOk ["rows", "rights", "table", "ahead", "place"] _ ["place", "row"] [] (defScope s_solved) ["place", "row"]; exact ⟨rfl, by decide +kernel, by decide +kernel, by decide +kernel, rfl, by decide +kernel⟩) rfl (by exact (qic (qi_enumerate rfl rfl b_enumerate (qa_cons (qe_var (i := 2) rfl (by first | exact Or.inl rfl | exact Or.inr (Or.inl rfl) | exact Or.inr (Or.inr rfl))) qa_nil)))) (fun C s₀ H₀ fp F0 H0 => by exact (qg_tup rfl (qgs_cons (qg_name (i := 0) (show (["place", "row"] : List Str).Nodup by decide +kernel) rfl (by first | exact Or.inl rfl | exact Or.inr rfl)) (qgs_cons (qg_name (i := 1) (show (["place", "row"] : List Str).Nodup by decide +kernel) rfl (by first | exact Or.inl rfl | exact Or.inr rfl)) qgs_nil)))) (fun C s₀ H₀ fp F0 H0 => by exact qts_nil) (fun C s₀ H₀ fp F0 H0 => by exact (qe_callF G_fraction (hr.mono (by decide)) rfl (qa_cons (qe_ix (qe_var (i := 1) rfl (by first | exact Or.inl rfl | exact Or.inr (Or.inl rfl) | exact Or.inr (Or.inr rfl))) (qe_neg qe_int) (fun _ _ => rfl)) (qa_cons (qe_ix (qe_var (i := 1) rfl (by first | exact Or.inl rfl | exact Or.inr (Or.inl rfl) | exact Or.inr (Or.inr rfl))) (qe_var (i := 0) rfl (by first | exact Or.inl rfl | exact Or.inr (Or.inl rfl) | exact Or.inr (Or.inr rfl))) (fun _ _ => rfl)) qa_nil)))))))))))))))))
theorem fo_solved {f : Addr} {fd : FuncData} (c : Cls) (F : Fun K "solved" "solved" s_solved f fd) (G_whole_row : Fn2 P w K mg base "whole_row" 2 ["row"] (sp_whole_row c)) (G_cleared : Fn2 P w K mg base "cleared" 2 ["table", "place", "ahead"] (sp_cleared c)) (G_fraction : Fn2 P w K mg base "fraction" 2 ["top", "bottom"] (sp_fraction c)) (G_led : Fn2 P w K mg base "led" 2 ["table", "place"] (sp_led c)) (b_range : mg "range" = none) (b_len : mg "len" = none) (b_zip : mg "zip" = none) (b_enumerate : mg "enumerate" = none)  : FnOk P w K mg base (CX1 P w) 3 f fd ["rows", "rights"] (spUp K (sp_solved c)) :=
  fn2 F sc_solved (fun _ _ _ h => l_solved h) fun cdv A outer s H E hr F0 => ⟨rd_solved K c , d_solved c hr G_whole_row G_cleared G_fraction G_led b_range b_len b_zip b_enumerate, fun ds Q Ex h => r_solved  h⟩
theorem ok_solved {f : Addr} {fd : FuncData} (c : Cls) (F : Fun K "solved" "solved" s_solved f fd) (hm : mg "solved" = some (.ref f)) (G_whole_row : Fn2 P w K mg base "whole_row" 2 ["row"] (sp_whole_row c)) (G_cleared : Fn2 P w K mg base "cleared" 2 ["table", "place", "ahead"] (sp_cleared c)) (G_fraction : Fn2 P w K mg base "fraction" 2 ["top", "bottom"] (sp_fraction c)) (G_led : Fn2 P w K mg base "led" 2 ["table", "place"] (sp_led c)) (b_range : mg "range" = none) (b_len : mg "len" = none) (b_zip : mg "zip" = none) (b_enumerate : mg "enumerate" = none)  : Fn2 P w K mg base "solved" 3 ["rows", "rights"] (sp_solved c) :=
  ⟨f, fd, fo_solved c F  G_whole_row G_cleared G_fraction G_led b_range b_len b_zip b_enumerate , hm, F.kp, F.binds fun _ _ _ _ _ _ us hl => match us, hl with | [_, _], _ => rfl⟩
abbrev s_law_kind : Stmt := top 18
theorem sc_law_kind : FnScope ["_law_rows", "_law_rights", "_law_good", "e"] ["_law_rows", "_law_rights"] (defScope s_law_kind) := ⟨rfl, rfl, rfl, by decide +kernel, rfl, by decide +kernel, by decide +kernel⟩
theorem d_law_kind {f : Addr} {cdv : Value} {A : Around} {outer : List Env} {s : Shared} {H : Hp} {E : XK} {F0 : Hp} (c : Cls) (hr : Room 3 (A.deeper (envOfC "_law_kind" (defScope s_law_kind) s.heap.objs.size f cdv))) (G_solved : Fn2 P w K mg base "solved" 3 ["rows", "rights"] (sp_solved c)) (b_isinstance : mg "isinstance" = none) (e_HallError : mg "HallError" = some (.ref c.HallError) ∧ ExcC K c.HallError) (e_NoAnswer : mg "NoAnswer" = some (.ref c.NoAnswer) ∧ ExcC K c.NoAnswer) (e_Barred : mg "Barred" = some (.ref c.Barred) ∧ clsB K c.Barred = true) (e_Missing : mg "Missing" = some (.ref c.Missing) ∧ ExcC K c.Missing) (e_NoFraction : mg "NoFraction" = some (.ref c.NoFraction) ∧ ExcC K c.NoFraction) : QSs (cxOf (CX1 P w) P w K mg base ["_law_rows", "_law_rights", "_law_good", "e"] "_law_kind" (defScope s_law_kind) f cdv A outer s H E) F0 H (defBody s_law_kind) (rd_law_kind K c ) := by
  have nd := sc_law_kind.nd
  have hu : (A.deeper (envOfC "_law_kind" (defScope s_law_kind) s.heap.objs.size f cdv)).units + 21 < cLine := by have := hr.units; omega
  exact (qss_cons (by exact (qs_set (i := 2) nd rfl (by first | exact Or.inl rfl | exact Or.inr rfl) (by exact qe_bl)))
 (by exact (qss_cons (by exact (qs_tryA (i := 3) rfl rfl rfl nd rfl rfl rfl e_HallError.1 e_HallError.2 (fun F0 => by exact (qss_one (by exact (qs_expr (by exact (qe_callF G_solved (hr.mono (by decide)) rfl (qa_cons (qe_var (i := 0) rfl (by first | exact Or.inl rfl | exact Or.inr (Or.inl rfl) | exact Or.inr (Or.inr rfl))) (qa_cons (qe_var (i := 1) rfl (by first | exact Or.inl rfl | exact Or.inr (Or.inl rfl) | exact Or.inr (Or.inr rfl))) qa_nil))))))))
 (fun a F0 => by exact (qss_one (by exact (qs_set (i := 2) nd rfl (by first | exact Or.inl rfl | exact Or.inr rfl) (by exact (qe_and (qe_isx (qe_var (i := 3) rfl (by first | exact Or.inl rfl | exact Or.inr (Or.inl rfl) | exact Or.inr (Or.inr rfl))) rfl b_isinstance rfl ⟨e_NoAnswer.1, (clsB_exc e_NoAnswer.2)⟩) (qe_one (qe_not (qe_ist (pcl_cons rfl e_Barred.1 (pcl_cons rfl e_Missing.1 (pcl_cons rfl e_NoFraction.1 pcl_nil))) (by intro C hC; simp only [List.mem_cons, List.not_mem_nil, or_false] at hC; rcases hC with rfl | rfl | rfl <;> first | exact e_Barred.2 | exact (clsB_exc e_Missing.2) | exact (clsB_exc e_NoFraction.2)) (qe_var (i := 3) rfl (by first | exact Or.inl rfl | exact Or.inr (Or.inl rfl) | exact Or.inr (Or.inr rfl))) rfl b_isinstance (hl := (by show (3 : Nat) ≤ sizeLine; decide)))))))))))))
 (by exact (qss_one (by exact (qs_ret (by exact (qe_var (i := 2) rfl (by first | exact Or.inl rfl | exact Or.inr (Or.inl rfl) | exact Or.inr (Or.inr rfl)))))))))))
theorem fo_law_kind {f : Addr} {fd : FuncData} (c : Cls) (F : Fun K "_law_kind" "_law_kind" s_law_kind f fd) (G_solved : Fn2 P w K mg base "solved" 3 ["rows", "rights"] (sp_solved c)) (b_isinstance : mg "isinstance" = none) (e_HallError : mg "HallError" = some (.ref c.HallError) ∧ ExcC K c.HallError) (e_NoAnswer : mg "NoAnswer" = some (.ref c.NoAnswer) ∧ ExcC K c.NoAnswer) (e_Barred : mg "Barred" = some (.ref c.Barred) ∧ clsB K c.Barred = true) (e_Missing : mg "Missing" = some (.ref c.Missing) ∧ ExcC K c.Missing) (e_NoFraction : mg "NoFraction" = some (.ref c.NoFraction) ∧ ExcC K c.NoFraction) (g1_NoAnswer : PySem.W.findIn K (.ref c.NoAnswer) "__getattribute__" = some (some (.builtin "BaseException.__getattribute__"))) (g2_NoAnswer : PySem.W.findIn K (.ref c.NoAnswer) "__getattr__" = some none) (g3_NoAnswer : PySem.W.findIn K (.ref c.NoAnswer) "__class__" = some (some (.builtin "object.__class__"))) (g4_NoAnswer : PySem.W.mroIn K c.NoAnswer (.type "object") = some true) (g5_NoAnswer : PySem.W.mroIn K c.NoAnswer (.type "BaseException") = some true) (s_NoAnswer_HallError : excSub K c.NoAnswer c.HallError = true) (s_NoAnswer_NoAnswer : excSub K c.NoAnswer c.NoAnswer = true) (s_NoAnswer_Barred : excSub K c.NoAnswer c.Barred = false) (s_NoAnswer_Missing : excSub K c.NoAnswer c.Missing = false) (s_NoAnswer_NoFraction : excSub K c.NoAnswer c.NoFraction = false) : FnOk P w K mg base (CX1 P w) 4 f fd ["_law_rows", "_law_rights"] (spUp K (sp_law_kind c)) :=
  fn2 F sc_law_kind (fun _ _ _ h => l_law_kind h) fun cdv A outer s H E hr F0 => ⟨rd_law_kind K c , d_law_kind c hr G_solved b_isinstance e_HallError e_NoAnswer e_Barred e_Missing e_NoFraction, fun ds Q Ex h => r_law_kind ⟨e_NoAnswer.2, ⟨g1_NoAnswer, g2_NoAnswer, g3_NoAnswer, g4_NoAnswer, g5_NoAnswer⟩, s_NoAnswer_HallError, s_NoAnswer_NoAnswer, s_NoAnswer_Barred, s_NoAnswer_Missing, s_NoAnswer_NoFraction⟩ h⟩
theorem ok_law_kind {f : Addr} {fd : FuncData} (c : Cls) (F : Fun K "_law_kind" "_law_kind" s_law_kind f fd) (hm : mg "_law_kind" = some (.ref f)) (G_solved : Fn2 P w K mg base "solved" 3 ["rows", "rights"] (sp_solved c)) (b_isinstance : mg "isinstance" = none) (e_HallError : mg "HallError" = some (.ref c.HallError) ∧ ExcC K c.HallError) (e_NoAnswer : mg "NoAnswer" = some (.ref c.NoAnswer) ∧ ExcC K c.NoAnswer) (e_Barred : mg "Barred" = some (.ref c.Barred) ∧ clsB K c.Barred = true) (e_Missing : mg "Missing" = some (.ref c.Missing) ∧ ExcC K c.Missing) (e_NoFraction : mg "NoFraction" = some (.ref c.NoFraction) ∧ ExcC K c.NoFraction) (g1_NoAnswer : PySem.W.findIn K (.ref c.NoAnswer) "__getattribute__" = some (some (.builtin "BaseException.__getattribute__"))) (g2_NoAnswer : PySem.W.findIn K (.ref c.NoAnswer) "__getattr__" = some none) (g3_NoAnswer : PySem.W.findIn K (.ref c.NoAnswer) "__class__" = some (some (.builtin "object.__class__"))) (g4_NoAnswer : PySem.W.mroIn K c.NoAnswer (.type "object") = some true) (g5_NoAnswer : PySem.W.mroIn K c.NoAnswer (.type "BaseException") = some true) (s_NoAnswer_HallError : excSub K c.NoAnswer c.HallError = true) (s_NoAnswer_NoAnswer : excSub K c.NoAnswer c.NoAnswer = true) (s_NoAnswer_Barred : excSub K c.NoAnswer c.Barred = false) (s_NoAnswer_Missing : excSub K c.NoAnswer c.Missing = false) (s_NoAnswer_NoFraction : excSub K c.NoAnswer c.NoFraction = false) : Fn2 P w K mg base "_law_kind" 4 ["_law_rows", "_law_rights"] (sp_law_kind c) :=
  ⟨f, fd, fo_law_kind c F  G_solved b_isinstance e_HallError e_NoAnswer e_Barred e_Missing e_NoFraction g1_NoAnswer g2_NoAnswer g3_NoAnswer g4_NoAnswer g5_NoAnswer s_NoAnswer_HallError s_NoAnswer_NoAnswer s_NoAnswer_Barred s_NoAnswer_Missing s_NoAnswer_NoFraction, hm, F.kp, F.binds fun _ _ _ _ _ _ us hl => match us, hl with | [_, _], _ => rfl⟩
abbrev s_law : Stmt := top 21
theorem sc_law : FnScope ["_law_script", "_law_many", "_law_rows", "_law_rights", "_law_at", "_law_row", "_law_right", "_law_system", "_law_sides", "_law_due"] ["_law_script"] (defScope s_law) := ⟨rfl, rfl, rfl, by decide +kernel, rfl, by decide +kernel, by decide +kernel⟩
theorem d_law {f : Addr} {cdv : Value} {A : Around} {outer : List Env} {s : Shared} {H : Hp} {E : XK} {F0 : Hp} (c : Cls) (hr : Room 4 (A.deeper (envOfC "law" (defScope s_law) s.heap.objs.size f cdv))) (G_law_leaning_row : Fn2R P w K mg base "_law_leaning_row" 2 ["_law_script", "_law_rows", "_law_rights", "_law_at"] (sp_law_leaning_row c)) (G_law_diagonal : Fn2 P w K mg base "_law_diagonal" 2 ["_law_script", "_law_many"] (sp_law_diagonal c)) (G_law_cell : Fn2 P w K mg base "_law_cell" 1 ["_law_script", "_law_k"] (sp_law_cell c)) (G_law_kind : Fn2 P w K mg base "_law_kind" 4 ["_law_rows", "_law_rights"] (sp_law_kind c)) (G_solved : Fn2 P w K mg base "solved" 3 ["rows", "rights"] (sp_solved c)) (b_range : mg "range" = none) : QSs (cxOf (CX1 P w) P w K mg base ["_law_script", "_law_many", "_law_rows", "_law_rights", "_law_at", "_law_row", "_law_right", "_law_system", "_law_sides", "_law_due"] "law" (defScope s_law) f cdv A outer s H E) F0 H (defBody s_law) (rd_law K c ) := by
  have nd := sc_law.nd
  have hu : (A.deeper (envOfC "law" (defScope s_law) s.heap.objs.size f cdv)).units + 21 < cLine := by have := hr.units; omega
  exact (qss_cons (by exact (qs_set (i := 1) nd rfl (by first | exact Or.inl rfl | exact Or.inr rfl) (by exact (qe_bin (fun _ => o_add) qe_int (qe_bin (fun _ => o_mod) (qe_callF G_law_cell (hr.mono (by decide)) rfl (qa_cons (qe_var (i := 0) rfl (by first | exact Or.inl rfl | exact Or.inr (Or.inl rfl) | exact Or.inr (Or.inr rfl))) (qa_cons qe_int qa_nil))) qe_int)))))
 (by exact (qss_cons (by exact (qs_setC (i := 2) nd rfl rfl (own := ["_law_k"]) (N' := ["_law_k", "_law_script", "_law_many"]) (by show CpOk ["_law_script", "_law_many", "_law_rows", "_law_rights", "_law_at", "_law_row", "_law_right", "_law_system", "_law_sides", "_law_due"] _ ["_law_k"] [0, 1] (defScope s_law) ["_law_k", "_law_script", "_law_many"]; exact ⟨rfl, by decide +kernel, by decide +kernel, by decide +kernel, rfl, by decide +kernel⟩) rfl (by exact (qic (qi_rng1 rfl b_range (qa_cons (qe_var (i := 1) rfl (by first | exact Or.inl rfl | exact Or.inr (Or.inl rfl) | exact Or.inr (Or.inr rfl))) qa_nil)))) (fun C s₀ H₀ fp F0 H0 => by exact (qg_name (i := 0) (show (["_law_k", "_law_script", "_law_many"] : List Str).Nodup by decide +kernel) rfl (by first | exact Or.inl rfl | exact Or.inr rfl))) (fun C s₀ H₀ fp F0 H0 => by exact qts_nil) (fun C s₀ H₀ fp F0 H0 => by exact (qe_of (by exact (qf_comp (own := ["_law_j"]) (N' := ["_law_j", "_law_k", "_law_script", "_law_many"]) (by show CpOk ["_law_k", "_law_script", "_law_many"] _ ["_law_j"] [0, 1, 2] (relabelS _ (defScope s_law)) ["_law_j", "_law_k", "_law_script", "_law_many"]; exact ⟨rfl, by decide +kernel, by decide +kernel, by decide +kernel, rfl, by decide +kernel⟩) rfl (by exact (qic (qi_rng1 rfl b_range (qa_cons (qe_var (i := 2) rfl (by first | exact Or.inl rfl | exact Or.inr (Or.inl rfl) | exact Or.inr (Or.inr rfl))) qa_nil)))) (fun C s₀ H₀ fp F0 H0 => by exact (qg_name (i := 0) (show (["_law_j", "_law_k", "_law_script", "_law_many"] : List Str).Nodup by decide +kernel) rfl (by first | exact Or.inl rfl | exact Or.inr rfl))) (fun C s₀ H₀ fp F0 H0 => by exact qts_nil) (fun C s₀ H₀ fp F0 H0 => by exact (qe_bin (fun _ => o_sub) (qe_bin (fun _ => o_mod) (qe_callF G_law_cell (hr.mono (by decide)) rfl (qa_cons (qe_var (i := 2) rfl (by first | exact Or.inl rfl | exact Or.inr (Or.inl rfl) | exact Or.inr (Or.inr rfl))) (qa_cons (qe_bin (fun _ => o_add) (qe_bin (fun _ => o_add) qe_int (qe_bin (fun _ => o_mul) (qe_var (i := 3) rfl (by first | exact Or.inl rfl | exact Or.inr (Or.inl rfl) | exact Or.inr (Or.inr rfl))) (qe_var (i := 1) rfl (by first | exact Or.inl rfl | exact Or.inr (Or.inl rfl) | exact Or.inr (Or.inr rfl))))) (qe_var (i := 0) rfl (by first | exact Or.inl rfl | exact Or.inr (Or.inl rfl) | exact Or.inr (Or.inr rfl)))) qa_nil))) qe_int) qe_int))))))))
 (by exact (qss_cons (by exact (qs_setC (i := 3) nd rfl rfl (own := ["_law_k"]) (N' := ["_law_k", "_law_script"]) (by show CpOk ["_law_script", "_law_many", "_law_rows", "_law_rights", "_law_at", "_law_row", "_law_right", "_law_system", "_law_sides", "_law_due"] _ ["_law_k"] [0] (defScope s_law) ["_law_k", "_law_script"]; exact ⟨rfl, by decide +kernel, by decide +kernel, by decide +kernel, rfl, by decide +kernel⟩) rfl (by exact (qic (qi_rng1 rfl b_range (qa_cons (qe_var (i := 1) rfl (by first | exact Or.inl rfl | exact Or.inr (Or.inl rfl) | exact Or.inr (Or.inr rfl))) qa_nil)))) (fun C s₀ H₀ fp F0 H0 => by exact (qg_name (i := 0) (show (["_law_k", "_law_script"] : List Str).Nodup by decide +kernel) rfl (by first | exact Or.inl rfl | exact Or.inr rfl))) (fun C s₀ H₀ fp F0 H0 => by exact qts_nil) (fun C s₀ H₀ fp F0 H0 => by exact (qe_bin (fun _ => o_sub) (qe_bin (fun _ => o_mod) (qe_callF G_law_cell (hr.mono (by decide)) rfl (qa_cons (qe_var (i := 1) rfl (by first | exact Or.inl rfl | exact Or.inr (Or.inl rfl) | exact Or.inr (Or.inr rfl))) (qa_cons (qe_bin (fun _ => o_add) qe_int (qe_var (i := 0) rfl (by first | exact Or.inl rfl | exact Or.inr (Or.inl rfl) | exact Or.inr (Or.inr rfl)))) qa_nil))) qe_int) qe_int))))
 (by exact (qss_cons (by exact (qs_set (i := 4) nd rfl (by first | exact Or.inl rfl | exact Or.inr rfl) (by exact (qe_bin (fun _ => o_mod) (qe_callF G_law_cell (hr.mono (by decide)) rfl (qa_cons (qe_var (i := 0) rfl (by first | exact Or.inl rfl | exact Or.inr (Or.inl rfl) | exact Or.inr (Or.inr rfl))) (qa_cons qe_int qa_nil))) (qe_var (i := 1) rfl (by first | exact Or.inl rfl | exact Or.inr (Or.inl rfl) | exact Or.inr (Or.inr rfl)))))))
 (by exact (qss_cons (by exact (qs_asg (qe_lendR (fun F0 H0 => by exact (qr_callF G_law_leaning_row (hr.mono (by decide)) rfl (qa_cons (qe_var (i := 0) rfl (by first | exact Or.inl rfl | exact Or.inr (Or.inl rfl) | exact Or.inr (Or.inr rfl))) (qa_cons (qe_var (i := 2) rfl (by first | exact Or.inl rfl | exact Or.inr (Or.inl rfl) | exact Or.inr (Or.inr rfl))) (qa_cons (qe_var (i := 3) rfl (by first | exact Or.inl rfl | exact Or.inr (Or.inl rfl) | exact Or.inr (Or.inr rfl))) (qa_cons (qe_var (i := 4) rfl (by first | exact Or.inl rfl | exact Or.inr (Or.inl rfl) | exact Or.inr (Or.inr rfl))) qa_nil))))))) (qg_tup rfl (qgs_cons (qg_name (i := 5) nd rfl (by first | exact Or.inl rfl | exact Or.inr rfl)) (qgs_cons (qg_name (i := 6) nd rfl (by first | exact Or.inl rfl | exact Or.inr rfl)) qgs_nil)))))
 (by exact (qss_cons (by exact (qs_put (i := 2) rfl (by first | exact Or.inl rfl | exact Or.inr (Or.inl rfl) | exact Or.inr (Or.inr rfl)) (by exact (qe_var (i := 4) rfl (by first | exact Or.inl rfl | exact Or.inr (Or.inl rfl) | exact Or.inr (Or.inr rfl)))) (by exact (qe_var (i := 5) rfl (by first | exact Or.inl rfl | exact Or.inr (Or.inl rfl) | exact Or.inr (Or.inr rfl))))))
 (by exact (qss_cons (by exact (qs_if (by exact (qt_cmp (fun _ => o_eq hu) (qe_bin (fun _ => o_mod) (qe_bin (fun _ => o_div) (qe_callF G_law_cell (hr.mono (by decide)) rfl (qa_cons (qe_var (i := 0) rfl (by first | exact Or.inl rfl | exact Or.inr (Or.inl rfl) | exact Or.inr (Or.inr rfl))) (qa_cons qe_int qa_nil))) qe_int) qe_int) qe_int (nomark _)))
 (by exact (qss_one (by exact (qs_put (i := 3) rfl (by first | exact Or.inl rfl | exact Or.inr (Or.inl rfl) | exact Or.inr (Or.inr rfl)) (by exact (qe_var (i := 4) rfl (by first | exact Or.inl rfl | exact Or.inr (Or.inl rfl) | exact Or.inr (Or.inr rfl)))) (by exact (qe_var (i := 6) rfl (by first | exact Or.inl rfl | exact Or.inr (Or.inl rfl) | exact Or.inr (Or.inr rfl))))))))
 (by exact qss_nil)))
 (by exact (qss_cons (by exact (qs_frz (by exact (qs_setC (i := 7) nd rfl rfl (own := ["_law_one"]) (N' := ["_law_one"]) (by show CpOk ["_law_script", "_law_many", "_law_rows", "_law_rights", "_law_at", "_law_row", "_law_right", "_law_system", "_law_sides", "_law_due"] _ ["_law_one"] [] (defScope s_law) ["_law_one"]; exact ⟨rfl, by decide +kernel, by decide +kernel, by decide +kernel, rfl, by decide +kernel⟩) rfl (by exact (qic (qi_seq (qe_var (i := 2) rfl (by first | exact Or.inl rfl | exact Or.inr (Or.inl rfl) | exact Or.inr (Or.inr rfl)))))) (fun C s₀ H₀ fp F0 H0 => by exact (qg_name (i := 0) (show (["_law_one"] : List Str).Nodup by decide +kernel) rfl (by first | exact Or.inl rfl | exact Or.inr rfl))) (fun C s₀ H₀ fp F0 H0 => by exact qts_nil) (fun C s₀ H₀ fp F0 H0 => by exact (qe_of (by exact (qf_comp (own := ["_law_entry"]) (N' := ["_law_entry"]) (by show CpOk ["_law_one"] _ ["_law_entry"] [] (relabelS _ (defScope s_law)) ["_law_entry"]; exact ⟨rfl, by decide +kernel, by decide +kernel, by decide +kernel, rfl, by decide +kernel⟩) rfl (by exact (qic (qi_seq (qe_var (i := 0) rfl (by first | exact Or.inl rfl | exact Or.inr (Or.inl rfl) | exact Or.inr (Or.inr rfl)))))) (fun C s₀ H₀ fp F0 H0 => by exact (qg_name (i := 0) (show (["_law_entry"] : List Str).Nodup by decide +kernel) rfl (by first | exact Or.inl rfl | exact Or.inr rfl))) (fun C s₀ H₀ fp F0 H0 => by exact qts_nil) (fun C s₀ H₀ fp F0 H0 => by exact (qe_tup (qa_cons (qe_var (i := 0) rfl (by first | exact Or.inl rfl | exact Or.inr (Or.inl rfl) | exact Or.inr (Or.inr rfl))) (qa_cons qe_int qa_nil))))))))))))
 (by exact (qss_cons (by exact (qs_if (by exact (qt_peek (fun F0 H0 => by exact (qt_not (qt_val (qe_callF G_law_kind (hr.mono (by decide)) rfl (qa_cons (qe_var (i := 7) rfl (by first | exact Or.inl rfl | exact Or.inr (Or.inl rfl) | exact Or.inr (Or.inr rfl))) (qa_cons (qe_of (by exact (qf_comp (own := ["_law_one"]) (N' := ["_law_one"]) (by show CpOk ["_law_script", "_law_many", "_law_rows", "_law_rights", "_law_at", "_law_row", "_law_right", "_law_system", "_law_sides", "_law_due"] _ ["_law_one"] [] (defScope s_law) ["_law_one"]; exact ⟨rfl, by decide +kernel, by decide +kernel, by decide +kernel, rfl, by decide +kernel⟩) rfl (by exact (qic (qi_seq (qe_var (i := 3) rfl (by first | exact Or.inl rfl | exact Or.inr (Or.inl rfl) | exact Or.inr (Or.inr rfl)))))) (fun C s₀ H₀ fp F0 H0 => by exact (qg_name (i := 0) (show (["_law_one"] : List Str).Nodup by decide +kernel) rfl (by first | exact Or.inl rfl | exact Or.inr rfl))) (fun C s₀ H₀ fp F0 H0 => by exact qts_nil) (fun C s₀ H₀ fp F0 H0 => by exact (qe_tup (qa_cons (qe_var (i := 0) rfl (by first | exact Or.inl rfl | exact Or.inr (Or.inl rfl) | exact Or.inr (Or.inr rfl))) (qa_cons qe_int qa_nil))))))) qa_nil))))))))
 (by exact (qss_one (by exact (qs_ret (by exact qe_bl)))))
 (by exact qss_nil)))
 (by exact (qss_cons (by exact (qs_asg (qe_callF G_law_diagonal (hr.mono (by decide)) rfl (qa_cons (qe_var (i := 0) rfl (by first | exact Or.inl rfl | exact Or.inr (Or.inl rfl) | exact Or.inr (Or.inr rfl))) (qa_cons (qe_bin (fun _ => o_add) qe_int (qe_bin (fun _ => o_mod) (qe_callF G_law_cell (hr.mono (by decide)) rfl (qa_cons (qe_var (i := 0) rfl (by first | exact Or.inl rfl | exact Or.inr (Or.inl rfl) | exact Or.inr (Or.inr rfl))) (qa_cons qe_int qa_nil))) qe_int)) qa_nil))) (qg_tup rfl (qgs_cons (qg_name (i := 7) nd rfl (by first | exact Or.inl rfl | exact Or.inr rfl)) (qgs_cons (qg_name (i := 8) nd rfl (by first | exact Or.inl rfl | exact Or.inr rfl)) (qgs_cons (qg_name (i := 9) nd rfl (by first | exact Or.inl rfl | exact Or.inr rfl)) qgs_nil))))))
 (by exact (qss_one (by exact (qs_ret (by exact (qe_and (qe_cmp (fun _ => o_eq hu) (qe_callF G_solved (hr.mono (by decide)) rfl (qa_cons (qe_var (i := 7) rfl (by first | exact Or.inl rfl | exact Or.inr (Or.inl rfl) | exact Or.inr (Or.inr rfl))) (qa_cons (qe_var (i := 8) rfl (by first | exact Or.inl rfl | exact Or.inr (Or.inl rfl) | exact Or.inr (Or.inr rfl))) qa_nil))) (qe_var (i := 9) rfl (by first | exact Or.inl rfl | exact Or.inr (Or.inl rfl) | exact Or.inr (Or.inr rfl))) (nomark _)) (qe_one (qe_cmp (fun _ => o_eq hu) (qe_callF G_solved (hr.mono (by decide)) rfl (qa_cons (qe_of (by exact (qf_lst qa_nil))) (qa_cons (qe_of (by exact (qf_lst qa_nil))) qa_nil))) (qe_of (by exact (qf_lst qa_nil))) (nomark _))))))))))))))))))))))))))))
theorem fo_law {f : Addr} {fd : FuncData} (c : Cls) (F : Fun K "law" "law" s_law f fd) (G_law_leaning_row : Fn2R P w K mg base "_law_leaning_row" 2 ["_law_script", "_law_rows", "_law_rights", "_law_at"] (sp_law_leaning_row c)) (G_law_diagonal : Fn2 P w K mg base "_law_diagonal" 2 ["_law_script", "_law_many"] (sp_law_diagonal c)) (G_law_cell : Fn2 P w K mg base "_law_cell" 1 ["_law_script", "_law_k"] (sp_law_cell c)) (G_law_kind : Fn2 P w K mg base "_law_kind" 4 ["_law_rows", "_law_rights"] (sp_law_kind c)) (G_solved : Fn2 P w K mg base "solved" 3 ["rows", "rights"] (sp_solved c)) (b_range : mg "range" = none)  : FnOk P w K mg base (CX1 P w) 5 f fd ["_law_script"] (spUp K (sp_law c)) :=
  fn2 F sc_law (fun _ _ _ h => l_law h) fun cdv A outer s H E hr F0 => ⟨rd_law K c , d_law c hr G_law_leaning_row G_law_diagonal G_law_cell G_law_kind G_solved b_range, fun ds Q Ex h => r_law  h⟩
theorem ok_law {f : Addr} {fd : FuncData} (c : Cls) (F : Fun K "law" "law" s_law f fd) (hm : mg "law" = some (.ref f)) (G_law_leaning_row : Fn2R P w K mg base "_law_leaning_row" 2 ["_law_script", "_law_rows", "_law_rights", "_law_at"] (sp_law_leaning_row c)) (G_law_diagonal : Fn2 P w K mg base "_law_diagonal" 2 ["_law_script", "_law_many"] (sp_law_diagonal c)) (G_law_cell : Fn2 P w K mg base "_law_cell" 1 ["_law_script", "_law_k"] (sp_law_cell c)) (G_law_kind : Fn2 P w K mg base "_law_kind" 4 ["_law_rows", "_law_rights"] (sp_law_kind c)) (G_solved : Fn2 P w K mg base "solved" 3 ["rows", "rights"] (sp_solved c)) (b_range : mg "range" = none)  : Fn2 P w K mg base "law" 5 ["_law_script"] (sp_law c) :=
  ⟨f, fd, fo_law c F  G_law_leaning_row G_law_diagonal G_law_cell G_law_kind G_solved b_range , hm, F.kp, F.binds fun _ _ _ _ _ _ us hl => match us, hl with | [_], _ => rfl⟩
end
theorem all_mk {l : PySem.W.OpenLaw} {w : World} {K : PySem.W.Frag} {h : Heap} {mg : Str → Option Value} {fa : Addr} (X : K.In h) (G : h.Ns mainGlobals mg) (hfa : mg "law" = some (.ref fa))
  {C_NoFraction C_NoAnswer C_HallError C_Barred C_Missing : Addr}
  {f0 : Addr} {od0 an0 : Option Addr} {sl0 : Array (Option Value)} {oc0 kV0 dc0 pm0 cd0 ct0 : Value}
  (a0 : PySem.W.nsIn K mainGlobals "_law_cell" = some (some (.ref f0))) (l0 : K.lookup f0 = some ⟨oc0, od0, .func (PySem.W.fnOf "_law_cell" "_law_cell" (defArgs s_law_cell) (defBody s_law_cell) (defScope s_law_cell) .none kV0 dc0 pm0 an0 cd0 ct0), sl0⟩) (c0 : PySem.W.codeIn K cd0 "_law_cell" = true) (k0 : PySem.W.keepIn K (.ref f0) = true)
  {f1 : Addr} {od1 an1 : Option Addr} {sl1 : Array (Option Value)} {oc1 kV1 dc1 pm1 cd1 ct1 : Value}
  (a1 : PySem.W.nsIn K mainGlobals "_law_leaning_row" = some (some (.ref f1))) (l1 : K.lookup f1 = some ⟨oc1, od1, .func (PySem.W.fnOf "_law_leaning_row" "_law_leaning_row" (defArgs s_law_leaning_row) (defBody s_law_leaning_row) (defScope s_law_leaning_row) .none kV1 dc1 pm1 an1 cd1 ct1), sl1⟩) (c1 : PySem.W.codeIn K cd1 "_law_leaning_row" = true) (k1 : PySem.W.keepIn K (.ref f1) = true)
  {f2 : Addr} {od2 an2 : Option Addr} {sl2 : Array (Option Value)} {oc2 kV2 dc2 pm2 cd2 ct2 : Value}
  (a2 : PySem.W.nsIn K mainGlobals "_law_diagonal" = some (some (.ref f2))) (l2 : K.lookup f2 = some ⟨oc2, od2, .func (PySem.W.fnOf "_law_diagonal" "_law_diagonal" (defArgs s_law_diagonal) (defBody s_law_diagonal) (defScope s_law_diagonal) .none kV2 dc2 pm2 an2 cd2 ct2), sl2⟩) (c2 : PySem.W.codeIn K cd2 "_law_diagonal" = true) (k2 : PySem.W.keepIn K (.ref f2) = true)
  {f3 : Addr} {od3 an3 : Option Addr} {sl3 : Array (Option Value)} {oc3 kV3 dc3 pm3 cd3 ct3 : Value}
  (a3 : PySem.W.nsIn K mainGlobals "divisor" = some (some (.ref f3))) (l3 : K.lookup f3 = some ⟨oc3, od3, .func (PySem.W.fnOf "divisor" "divisor" (defArgs s_divisor) (defBody s_divisor) (defScope s_divisor) .none kV3 dc3 pm3 an3 cd3 ct3), sl3⟩) (c3 : PySem.W.codeIn K cd3 "divisor" = true) (k3 : PySem.W.keepIn K (.ref f3) = true)
  {f4 : Addr} {od4 an4 : Option Addr} {sl4 : Array (Option Value)} {oc4 kV4 dc4 pm4 cd4 ct4 : Value}
  (a4 : PySem.W.nsIn K mainGlobals "whole_row" = some (some (.ref f4))) (l4 : K.lookup f4 = some ⟨oc4, od4, .func (PySem.W.fnOf "whole_row" "whole_row" (defArgs s_whole_row) (defBody s_whole_row) (defScope s_whole_row) .none kV4 dc4 pm4 an4 cd4 ct4), sl4⟩) (c4 : PySem.W.codeIn K cd4 "whole_row" = true) (k4 : PySem.W.keepIn K (.ref f4) = true)
  {f5 : Addr} {od5 an5 : Option Addr} {sl5 : Array (Option Value)} {oc5 kV5 dc5 pm5 cd5 ct5 : Value}
  (a5 : PySem.W.nsIn K mainGlobals "without" = some (some (.ref f5))) (l5 : K.lookup f5 = some ⟨oc5, od5, .func (PySem.W.fnOf "without" "without" (defArgs s_without) (defBody s_without) (defScope s_without) .none kV5 dc5 pm5 an5 cd5 ct5), sl5⟩) (c5 : PySem.W.codeIn K cd5 "without" = true) (k5 : PySem.W.keepIn K (.ref f5) = true)
  {f6 : Addr} {od6 an6 : Option Addr} {sl6 : Array (Option Value)} {oc6 kV6 dc6 pm6 cd6 ct6 : Value}
  (a6 : PySem.W.nsIn K mainGlobals "cleared" = some (some (.ref f6))) (l6 : K.lookup f6 = some ⟨oc6, od6, .func (PySem.W.fnOf "cleared" "cleared" (defArgs s_cleared) (defBody s_cleared) (defScope s_cleared) .none kV6 dc6 pm6 an6 cd6 ct6), sl6⟩) (c6 : PySem.W.codeIn K cd6 "cleared" = true) (k6 : PySem.W.keepIn K (.ref f6) = true)
  {f7 : Addr} {od7 an7 : Option Addr} {sl7 : Array (Option Value)} {oc7 kV7 dc7 pm7 cd7 ct7 : Value}
  (a7 : PySem.W.nsIn K mainGlobals "fraction" = some (some (.ref f7))) (l7 : K.lookup f7 = some ⟨oc7, od7, .func (PySem.W.fnOf "fraction" "fraction" (defArgs s_fraction) (defBody s_fraction) (defScope s_fraction) .none kV7 dc7 pm7 an7 cd7 ct7), sl7⟩) (c7 : PySem.W.codeIn K cd7 "fraction" = true) (k7 : PySem.W.keepIn K (.ref f7) = true)
  {f8 : Addr} {od8 an8 : Option Addr} {sl8 : Array (Option Value)} {oc8 kV8 dc8 pm8 cd8 ct8 : Value}
  (a8 : PySem.W.nsIn K mainGlobals "exchanged" = some (some (.ref f8))) (l8 : K.lookup f8 = some ⟨oc8, od8, .func (PySem.W.fnOf "exchanged" "exchanged" (defArgs s_exchanged) (defBody s_exchanged) (defScope s_exchanged) .none kV8 dc8 pm8 an8 cd8 ct8), sl8⟩) (c8 : PySem.W.codeIn K cd8 "exchanged" = true) (k8 : PySem.W.keepIn K (.ref f8) = true)
  {f9 : Addr} {od9 an9 : Option Addr} {sl9 : Array (Option Value)} {oc9 kV9 dc9 pm9 cd9 ct9 : Value}
  (a9 : PySem.W.nsIn K mainGlobals "led" = some (some (.ref f9))) (l9 : K.lookup f9 = some ⟨oc9, od9, .func (PySem.W.fnOf "led" "led" (defArgs s_led) (defBody s_led) (defScope s_led) .none kV9 dc9 pm9 an9 cd9 ct9), sl9⟩) (c9 : PySem.W.codeIn K cd9 "led" = true) (k9 : PySem.W.keepIn K (.ref f9) = true)
  {f10 : Addr} {od10 an10 : Option Addr} {sl10 : Array (Option Value)} {oc10 kV10 dc10 pm10 cd10 ct10 : Value}
  (a10 : PySem.W.nsIn K mainGlobals "solved" = some (some (.ref f10))) (l10 : K.lookup f10 = some ⟨oc10, od10, .func (PySem.W.fnOf "solved" "solved" (defArgs s_solved) (defBody s_solved) (defScope s_solved) .none kV10 dc10 pm10 an10 cd10 ct10), sl10⟩) (c10 : PySem.W.codeIn K cd10 "solved" = true) (k10 : PySem.W.keepIn K (.ref f10) = true)
  {f11 : Addr} {od11 an11 : Option Addr} {sl11 : Array (Option Value)} {oc11 kV11 dc11 pm11 cd11 ct11 : Value}
  (a11 : PySem.W.nsIn K mainGlobals "_law_kind" = some (some (.ref f11))) (l11 : K.lookup f11 = some ⟨oc11, od11, .func (PySem.W.fnOf "_law_kind" "_law_kind" (defArgs s_law_kind) (defBody s_law_kind) (defScope s_law_kind) .none kV11 dc11 pm11 an11 cd11 ct11), sl11⟩) (c11 : PySem.W.codeIn K cd11 "_law_kind" = true) (k11 : PySem.W.keepIn K (.ref f11) = true)
  {f12 : Addr} {od12 an12 : Option Addr} {sl12 : Array (Option Value)} {oc12 kV12 dc12 pm12 cd12 ct12 : Value}
  (a12 : PySem.W.nsIn K mainGlobals "law" = some (some (.ref f12))) (l12 : K.lookup f12 = some ⟨oc12, od12, .func (PySem.W.fnOf "law" "law" (defArgs s_law) (defBody s_law) (defScope s_law) .none kV12 dc12 pm12 an12 cd12 ct12), sl12⟩) (c12 : PySem.W.codeIn K cd12 "law" = true) (k12 : PySem.W.keepIn K (.ref f12) = true)
  (x_NoFraction : PySem.W.nsIn K mainGlobals "NoFraction" = some (some (.ref C_NoFraction))) (y_NoFraction : PySem.W.excIn K C_NoFraction [.type "ValueError", .type "Exception", .type "BaseException", .type "object"] "ValueError.__new__" = true)
  (x_NoAnswer : PySem.W.nsIn K mainGlobals "NoAnswer" = some (some (.ref C_NoAnswer))) (y_NoAnswer : PySem.W.excIn K C_NoAnswer [.type "ValueError", .type "Exception", .type "BaseException", .type "object"] "ValueError.__new__" = true)
  (x_HallError : PySem.W.nsIn K mainGlobals "HallError" = some (some (.ref C_HallError))) (y_HallError : PySem.W.excIn K C_HallError [.type "ValueError", .type "Exception", .type "BaseException", .type "object"] "ValueError.__new__" = true)
  (x_Barred : PySem.W.nsIn K mainGlobals "Barred" = some (some (.ref C_Barred))) (w_Barred : clsB K C_Barred = true)
  (x_Missing : PySem.W.nsIn K mainGlobals "Missing" = some (some (.ref C_Missing))) (y_Missing : PySem.W.excIn K C_Missing [.type "ValueError", .type "Exception", .type "BaseException", .type "object"] "ValueError.__new__" = true)
  (z_len : PySem.W.nsIn K mainGlobals "len" = some none)
  (z_range : PySem.W.nsIn K mainGlobals "range" = some none)
  (z_zip : PySem.W.nsIn K mainGlobals "zip" = some none)
  (z_sorted : PySem.W.nsIn K mainGlobals "sorted" = some none)
  (z_int : PySem.W.nsIn K mainGlobals "int" = some none)
  (z_abs : PySem.W.nsIn K mainGlobals "abs" = some none)
  (z_enumerate : PySem.W.nsIn K mainGlobals "enumerate" = some none)
  (z_list : PySem.W.nsIn K mainGlobals "list" = some none)
  (z_isinstance : PySem.W.nsIn K mainGlobals "isinstance" = some none)
  (g1_NoAnswer : PySem.W.findIn K (.ref C_NoAnswer) "__getattribute__" = some (some (.builtin "BaseException.__getattribute__")))
  (g2_NoAnswer : PySem.W.findIn K (.ref C_NoAnswer) "__getattr__" = some none)
  (g3_NoAnswer : PySem.W.findIn K (.ref C_NoAnswer) "__class__" = some (some (.builtin "object.__class__")))
  (g4_NoAnswer : PySem.W.mroIn K C_NoAnswer (.type "object") = some true)
  (g5_NoAnswer : PySem.W.mroIn K C_NoAnswer (.type "BaseException") = some true)
  (s_NoAnswer_HallError : excSub K C_NoAnswer C_HallError = true)
  (s_NoAnswer_NoAnswer : excSub K C_NoAnswer C_NoAnswer = true)
  (s_NoAnswer_Barred : excSub K C_NoAnswer C_Barred = false)
  (s_NoAnswer_Missing : excSub K C_NoAnswer C_Missing = false)
  (s_NoAnswer_NoFraction : excSub K C_NoAnswer C_NoFraction = false) :
  ∃ fd : FuncData, (∀ (s : Shared) (v : Value), BindsTo s fd ⟨[v], []⟩ [("_law_script", v)]) ∧ ∀ base : Heap, K.In base → base.Ns mainGlobals mg → FnOk l.prog w K mg base (CX1 l.prog w) 5 fa fd ["_law_script"] (spUp K sp_law0) := by
  have e := hfa.symm.trans (PySem.W.mg_of X G a12)
  cases e
  let c : Cls := { NoFraction := C_NoFraction, NoAnswer := C_NoAnswer, HallError := C_HallError, Barred := C_Barred, Missing := C_Missing }
  have e_NoFraction : mg "NoFraction" = some (.ref c.NoFraction) ∧ ExcC K c.NoFraction := ⟨PySem.W.mg_of X G x_NoFraction, y_NoFraction⟩
  have e_NoAnswer : mg "NoAnswer" = some (.ref c.NoAnswer) ∧ ExcC K c.NoAnswer := ⟨PySem.W.mg_of X G x_NoAnswer, y_NoAnswer⟩
  have e_HallError : mg "HallError" = some (.ref c.HallError) ∧ ExcC K c.HallError := ⟨PySem.W.mg_of X G x_HallError, y_HallError⟩
  have e_Barred : mg "Barred" = some (.ref c.Barred) ∧ clsB K c.Barred = true := ⟨PySem.W.mg_of X G x_Barred, w_Barred⟩
  have e_Missing : mg "Missing" = some (.ref c.Missing) ∧ ExcC K c.Missing := ⟨PySem.W.mg_of X G x_Missing, y_Missing⟩
  have b_len : mg "len" = none := PySem.W.mg_none_of X G z_len
  have b_range : mg "range" = none := PySem.W.mg_none_of X G z_range
  have b_zip : mg "zip" = none := PySem.W.mg_none_of X G z_zip
  have b_sorted : mg "sorted" = none := PySem.W.mg_none_of X G z_sorted
  have b_int : mg "int" = none := PySem.W.mg_none_of X G z_int
  have b_abs : mg "abs" = none := PySem.W.mg_none_of X G z_abs
  have b_enumerate : mg "enumerate" = none := PySem.W.mg_none_of X G z_enumerate
  have b_list : mg "list" = none := PySem.W.mg_none_of X G z_list
  have b_isinstance : mg "isinstance" = none := PySem.W.mg_none_of X G z_isinstance
  have F_law_cell := fun_mk (st := s_law_cell) l0 c0 k0
  have F_law_leaning_row := fun_mk (st := s_law_leaning_row) l1 c1 k1
  have F_law_diagonal := fun_mk (st := s_law_diagonal) l2 c2 k2
  have F_divisor := fun_mk (st := s_divisor) l3 c3 k3
  have F_whole_row := fun_mk (st := s_whole_row) l4 c4 k4
  have F_without := fun_mk (st := s_without) l5 c5 k5
  have F_cleared := fun_mk (st := s_cleared) l6 c6 k6
  have F_fraction := fun_mk (st := s_fraction) l7 c7 k7
  have F_exchanged := fun_mk (st := s_exchanged) l8 c8 k8
  have F_led := fun_mk (st := s_led) l9 c9 k9
  have F_solved := fun_mk (st := s_solved) l10 c10 k10
  have F_law_kind := fun_mk (st := s_law_kind) l11 c11 k11
  have F_law := fun_mk (st := s_law) l12 c12 k12
  refine ⟨PySem.W.fnOf "law" "law" (defArgs s_law) (defBody s_law) (defScope s_law) .none kV12 dc12 pm12 an12 cd12 ct12, fun s v => .of_eq rfl, fun base kb nb => ?_⟩
  have G_law_cell := ok_law_cell (P := l.prog) (w := w) (base := base) c F_law_cell (PySem.W.mg_of X G a0) b_len 
  have G_law_leaning_row := ok_law_leaning_row (P := l.prog) (w := w) (base := base) c F_law_leaning_row (PySem.W.mg_of X G a1) G_law_cell b_range b_len b_zip 
  have G_law_diagonal := ok_law_diagonal (P := l.prog) (w := w) (base := base) c F_law_diagonal (PySem.W.mg_of X G a2) G_law_cell b_range b_sorted b_int 
  have G_divisor := ok_divisor (P := l.prog) (w := w) (base := base) c F_divisor (PySem.W.mg_of X G a3) b_abs 
  have G_whole_row := ok_whole_row (P := l.prog) (w := w) (base := base) c F_whole_row (PySem.W.mg_of X G a4) G_divisor 
  have G_without := ok_without (P := l.prog) (w := w) (base := base) c F_without (PySem.W.mg_of X G a5) b_zip 
  have G_cleared := ok_cleared (P := l.prog) (w := w) (base := base) c F_cleared (PySem.W.mg_of X G a6) G_without b_enumerate 
  have G_fraction := ok_fraction (P := l.prog) (w := w) (base := base) c F_fraction (PySem.W.mg_of X G a7) G_divisor e_NoFraction 
  have G_exchanged := ok_exchanged (P := l.prog) (w := w) (base := base) c F_exchanged (PySem.W.mg_of X G a8) b_list 
  have G_led := ok_led (P := l.prog) (w := w) (base := base) c F_led (PySem.W.mg_of X G a9) G_exchanged b_range b_len e_NoAnswer 
  have G_solved := ok_solved (P := l.prog) (w := w) (base := base) c F_solved (PySem.W.mg_of X G a10) G_whole_row G_cleared G_fraction G_led b_range b_len b_zip b_enumerate 
  have G_law_kind := ok_law_kind (P := l.prog) (w := w) (base := base) c F_law_kind (PySem.W.mg_of X G a11) G_solved b_isinstance e_HallError e_NoAnswer e_Barred e_Missing e_NoFraction g1_NoAnswer g2_NoAnswer g3_NoAnswer g4_NoAnswer g5_NoAnswer s_NoAnswer_HallError s_NoAnswer_NoAnswer s_NoAnswer_Barred s_NoAnswer_Missing s_NoAnswer_NoFraction
  exact fo_law (P := l.prog) (w := w) (base := base) c F_law G_law_leaning_row G_law_diagonal G_law_cell G_law_kind G_solved b_range 
theorem walk {l : PySem.W.OpenLaw} {q : Program} {loose : List Str} {XP : (Str → Option Value) → Heap → Prop} {YP : World → Heap → Prop} {d : DefRec} {K : Params → PySem.W.Frag} (hn : l.most = some 63) (hdf : d.params.defaults = [])
    (hY : ∀ (w : World) (h : Heap), YP w h → (K w.params).In h)
    (F : ∀ (w : World) (mg : Str → Option Value) (fa : Addr) (h : Heap), (K w.params).In h → h.Ns mainGlobals mg → mg d.name = some (.ref fa) →
      ∃ fd : FuncData, (∀ (s : Shared) (u : Value), BindsTo s fd ⟨[u], []⟩ [("_law_script", u)]) ∧ ∀ base : Heap, (K w.params).In base → base.Ns mainGlobals mg → FnOk l.prog w (K w.params) mg base (CX1 l.prog w) 5 fa fd ["_law_script"] (spUp (K w.params) sp_law0)) :
    PySem.W.WalkO q loose XP YP l.row.toRowW d [] (fun f vs => PySem.call f vs) :=
  L2.walk_of (n := 63) (k := 5) (x := "_law_script") (CX := fun w => CX1 l.prog w) (sp := fun w => spUp (K w.params) sp_law0) hn (by decide) hdf ⟨rfl, by decide, by decide⟩ hY F (fun w H a ns hl hO hS => law_start hl hS) fun _ _ _ _ _ z => law_none z
end Lw
open PySem PySem.W PyProof.Rows
set_option maxRecDepth 100000 in
set_option maxHeartbeats 0 in
theorem PySem.Challenge.cw_hall_k22_no_answer_holds : PySem.Challenge.rw_hall_k22_no_answer.Holds := by
  w_on; o_law; k_head; (case hw => w_witness2)
  k_fill
  refine Lw.walk (l := PySem.Challenge.rw_hall_k22_no_answer) rfl rfl (fun w h Y => PySem.W.kIn_of Y) ?F
  case F =>
    intro w mg fa h KX G hmg
    refine' Lw.all_mk KX G hmg ?a0 ?l0 ?c0 ?k0 ?a1 ?l1 ?c1 ?k1 ?a2 ?l2 ?c2 ?k2 ?a3 ?l3 ?c3 ?k3 ?a4 ?l4 ?c4 ?k4 ?a5 ?l5 ?c5 ?k5 ?a6 ?l6 ?c6 ?k6 ?a7 ?l7 ?c7 ?k7 ?a8 ?l8 ?c8 ?k8 ?a9 ?l9 ?c9 ?k9 ?a10 ?l10 ?c10 ?k10 ?a11 ?l11 ?c11 ?k11 ?a12 ?l12 ?c12 ?k12 ?x_NoFraction ?y_NoFraction ?x_NoAnswer ?y_NoAnswer ?x_HallError ?y_HallError ?x_Barred ?w_Barred ?x_Missing ?y_Missing ?z_len ?z_range ?z_zip ?z_sorted ?z_int ?z_abs ?z_enumerate ?z_list ?z_isinstance ?g1_NoAnswer ?g2_NoAnswer ?g3_NoAnswer ?g4_NoAnswer ?g5_NoAnswer ?s_NoAnswer_HallError ?s_NoAnswer_NoAnswer ?s_NoAnswer_Barred ?s_NoAnswer_Missing ?s_NoAnswer_NoFraction
    (case a0 => k_is)
    (case l0 => k_is)
    (case c0 => k_is)
    (case k0 => k_is)
    (case a1 => k_is)
    (case l1 => k_is)
    (case c1 => k_is)
    (case k1 => k_is)
    (case a2 => k_is)
    (case l2 => k_is)
    (case c2 => k_is)
    (case k2 => k_is)
    (case a3 => k_is)
    (case l3 => k_is)
    (case c3 => k_is)
    (case k3 => k_is)
    (case a4 => k_is)
    (case l4 => k_is)
    (case c4 => k_is)
    (case k4 => k_is)
    (case a5 => k_is)
    (case l5 => k_is)
    (case c5 => k_is)
    (case k5 => k_is)
    (case a6 => k_is)
    (case l6 => k_is)
    (case c6 => k_is)
    (case k6 => k_is)
    (case a7 => k_is)
    (case l7 => k_is)
    (case c7 => k_is)
    (case k7 => k_is)
    (case a8 => k_is)
    (case l8 => k_is)
    (case c8 => k_is)
    (case k8 => k_is)
    (case a9 => k_is)
    (case l9 => k_is)
    (case c9 => k_is)
    (case k9 => k_is)
    (case a10 => k_is)
    (case l10 => k_is)
    (case c10 => k_is)
    (case k10 => k_is)
    (case a11 => k_is)
    (case l11 => k_is)
    (case c11 => k_is)
    (case k11 => k_is)
    (case a12 => k_is)
    (case l12 => k_is)
    (case c12 => k_is)
    (case k12 => k_is)
    (case x_NoFraction => k_is)
    (case y_NoFraction => k_exc)
    (case x_NoAnswer => k_is)
    (case y_NoAnswer => k_exc)
    (case x_HallError => k_is)
    (case y_HallError => k_exc)
    (case x_Barred => k_is)
    (case w_Barred => first | exact rfl | k_is)
    (case x_Missing => k_is)
    (case y_Missing => k_exc)
    (case z_len => k_is)
    (case z_range => k_is)
    (case z_zip => k_is)
    (case z_sorted => k_is)
    (case z_int => k_is)
    (case z_abs => k_is)
    (case z_enumerate => k_is)
    (case z_list => k_is)
    (case z_isinstance => k_is)
    (case g1_NoAnswer => k_is)
    (case g2_NoAnswer => k_is)
    (case g3_NoAnswer => k_is)
    (case g4_NoAnswer => k_is)
    (case g5_NoAnswer => k_is)
    (case s_NoAnswer_HallError => first | exact rfl | k_is)
    (case s_NoAnswer_NoAnswer => first | exact rfl | k_is)
    (case s_NoAnswer_Barred => first | exact rfl | k_is)
    (case s_NoAnswer_Missing => first | exact rfl | k_is)
    (case s_NoAnswer_NoFraction => first | exact rfl | k_is)
#print axioms PySem.Challenge.cw_hall_k22_no_answer_holds
