import PyProof.Rows.All
import Wide.All
import OpenK.AllK
import Wide.FinOn
import Lean
import PyProof.EqAt
import PyProof.EqKinds
import PyProof.TupleCall
import PyProof.NeKinds
import PySem.Challenge.RW_hall_k62_whole_cuts
set_option Elab.async false
set_option linter.all false
set_option maxRecDepth 100000
set_option maxHeartbeats 4000000
namespace L2
open PySem PySem.Spec PyProof.Rows

abbrev Key := Sum Int Str
def keyIs : Key → Value → Bool
  | .inl k, v => Value.isInt k v
  | .inr x, v => Value.isStrOf x v
def keyH (w : World) : Key → Int
  | .inl k => hashInt k
  | .inr x => hashStr w x
theorem keyIs_shape : ∀ {k : Key} {v : Value}, keyIs k v = true → (∃ i t, k = Sum.inl i ∧ v = Value.int i t) ∨ (∃ x t, k = Sum.inr x ∧ v = Value.str x t)
  | .inl i, v, h => by
    obtain ⟨t, e⟩ := Value.isInt_shape (k := i) (v := v) h
    exact .inl ⟨i, t, rfl, e⟩
  | .inr x, v, h => by
    obtain ⟨t, e⟩ := Value.isStrOf_shape (x := x) (v := v) h
    exact .inr ⟨x, t, rfl, e⟩
theorem key_ll (a b : Int) : decide ((Sum.inl a : Key) = Sum.inl b) = (a == b) := by
  by_cases e : a = b
  · subst e; simp
  · have h : ¬ (Sum.inl a : Key) = Sum.inl b := fun q => e (Sum.inl.inj q)
    rw [decide_eq_false h]
    exact (beq_eq_false_iff_ne.mpr e).symm
theorem key_rr (a b : Str) : decide ((Sum.inr a : Key) = Sum.inr b) = decide (a = b) := by
  by_cases e : a = b
  · subst e; simp
  · have h : ¬ (Sum.inr a : Key) = Sum.inr b := fun q => e (Sum.inr.inj q)
    rw [decide_eq_false h, decide_eq_false e]
theorem key_lr (a : Int) (b : Str) : decide ((Sum.inl a : Key) = Sum.inr b) = false := decide_eq_false (fun q => nomatch q)
theorem key_rl (a : Str) (b : Int) : decide ((Sum.inr a : Key) = Sum.inl b) = false := decide_eq_false (fun q => nomatch q)

def mixKind (prog : Program) (w : World) : PySem.KeyKind prog w Key where
  is := keyIs
  hash := keyH w
  inj := fun v a b ha hb => by
    rcases keyIs_shape ha with ⟨i, t, rfl, rfl⟩ | ⟨x, t, rfl, rfl⟩
    · rcases keyIs_shape hb with ⟨j, u, rfl, e⟩ | ⟨y, u, rfl, e⟩
      · injection e with e1 _; rw [e1]
      · exact nomatch e
    · rcases keyIs_shape hb with ⟨j, u, rfl, e⟩ | ⟨y, u, rfl, e⟩
      · exact nomatch e
      · injection e with e1 _; rw [e1]
  byValue := fun k v h => by
    rcases keyIs_shape h with ⟨i, t, rfl, rfl⟩ | ⟨x, t, rfl, rfl⟩ <;> rfl
  pyHash := fun hv h => by
    rcases keyIs_shape hv with ⟨i, t, rfl, rfl⟩ | ⟨x, t, rfl, rfl⟩
    · exact wpAny_pyHash_int h
    · exact wpAny_pyHash_str h
  eqBool := fun hu hv h => by
    rcases keyIs_shape hu with ⟨i, t, rfl, rfl⟩ | ⟨x, t, rfl, rfl⟩
    · rcases keyIs_shape hv with ⟨j, u, rfl, rfl⟩ | ⟨y, u, rfl, rfl⟩
      · rw [key_ll] at h; exact wpAny_eqBool_int h
      · rw [key_lr] at h; exact SeqAt.EqAt.int_str i t y u _ _ _ _ h
    · rcases keyIs_shape hv with ⟨j, u, rfl, rfl⟩ | ⟨y, u, rfl, rfl⟩
      · rw [key_rl] at h; exact SeqAt.EqAt.str_int x t j u _ _ _ _ h
      · rw [key_rr] at h; exact wpAny_eqBool_str h
  «strs» := fun k x t v h => by
    rcases keyIs_shape h with ⟨i, u, rfl, e⟩ | ⟨y, u, rfl, e⟩
    · exact nomatch e
    · injection e with e1 _
      subst e1
      cases v <;> rfl

end L2

namespace L2
open PySem PySem.Spec PyProof.Rows

inductive V where
  | non | bl (b : Bool) | int (i : Int) | str (x : Str) | byt (b : Array UInt8) | flt (b : UInt64) | ref (a : Addr) | ty (n : String)
  deriving DecidableEq

def RelV : V → Value → Prop
  | .non, u => u = Value.none
  | .bl b, u => u = Value.bool b
  | .int i, u => ∃ t, u = Value.int i t
  | .str x, u => ∃ t, u = Value.str x t
  | .byt b, u => ∃ t, u = Value.bytes b t
  | .flt b, u => ∃ t, u = Value.float b t
  | .ref a, u => u = Value.ref a
  | .ty n, u => u = Value.type n

abbrev Vals : List V → List Value → Prop := Paired RelV
theorem Vals.length {xs : List V} {us : List Value} (r : Vals xs us) : xs.length = us.length := Paired.length r
theorem Vals.get : ∀ {xs : List V} {us : List Value} {i : Nat} {x : V}, Vals xs us → xs[i]? = some x → ∃ u, us[i]? = some u ∧ RelV x u
  | _, _, _, _, .nil, e => by simp at e
  | _, _, 0, _, .cons r _, e => by simp at e; subst e; exact ⟨_, rfl, r⟩
  | _, _, i + 1, x, .cons _ t, e => by
    obtain ⟨u, h1, h2⟩ := Vals.get (i := i) (x := x) t (by simpa using e)
    exact ⟨u, by simpa using h1, h2⟩
theorem Vals.append : ∀ {xs ys : List V} {us ws : List Value}, Vals xs us → Vals ys ws → Vals (xs ++ ys) (us ++ ws)
  | _, _, _, _, .nil, s => s
  | _, _, _, _, .cons r t, s => .cons r (Vals.append t s)
theorem Vals.take : ∀ {xs : List V} {us : List Value} (n : Nat), Vals xs us → Vals (xs.take n) (us.take n)
  | _, _, 0, _ => .nil
  | _, _, _ + 1, .nil => .nil
  | _, _, n + 1, .cons r t => .cons r (Vals.take n t)
theorem Vals.drop : ∀ {xs : List V} {us : List Value} (n : Nat), Vals xs us → Vals (xs.drop n) (us.drop n)
  | _, _, 0, r => r
  | _, _, _ + 1, .nil => .nil
  | _, _, n + 1, .cons _ t => Vals.drop n t
def RelO : Option V → Option Value → Prop
  | some v, some u => RelV v u
  | none, none => True
  | _, _ => False
def KV {κ : Type} : List (κ × V) → List (κ × Value) → Prop := Paired fun (p : κ × V) (q : κ × Value) => p.1 = q.1 ∧ RelV p.2 q.2

def kV : Key → V
  | .inl i => .int i
  | .inr x => .str x

inductive HO where
  | lst (xs : List V)
  | tup (xs : List V)
  | dK (kvs : List (Key × V)) | dT (kvs : List (List Key × V))
  | set (S : Int → Bool) (n : Nat)
  | ins (C dx : Addr) (fs : List (Str × V))
  | own (x : Addr)
  | xd (fs : List (Str × V))
  | met (f x : Addr)
  | rng (lo hi : Int)
  | frz (o : Obj) (u : HO)
  | tbl (ps : Array Value)
  | ext (φ : Heap → Prop)

abbrev Hp := Addr → Option HO
def upd (H : Hp) (a : Addr) (o : HO) : Hp := fun b => if b = a then some o else H b
theorem upd_same {H : Hp} {a : Addr} {o : HO} : upd H a o a = some o := by unfold upd; rw [if_pos rfl]
theorem upd_ne {H : Hp} {a b : Addr} {o : HO} (h : b ≠ a) : upd H a o b = H b := by unfold upd; rw [if_neg h]
theorem ne_of_none {H : Hp} {a b : Addr} {o : HO} (h : H a = some o) (h' : H b = none) : a ≠ b := by
  intro e; subst e; rw [h] at h'; cases h'

section
variable (P : Program) (w : World)
def ObjOk (H : Hp) (h : Heap) (a : Addr) : HO → Prop
  | .lst xs => xs.length ≤ sizeLine ∧ ∃ (its : List Value) (n : Nat), Vals xs its ∧ h.get? a = some { cls := .type "list", data := .seq its.toArray n }
  | .tup xs => xs.length ≤ sizeLine ∧ ∃ its : List Value, Vals xs its ∧ IsTup h a its.toArray
  | .dK kvs => kvs.length ≤ sizeLine ∧ (a == sysModules) = false ∧ ∃ vs, KV kvs vs ∧ h.DictOf (mixKind P w) a vs
  | .dT kvs => kvs.length ≤ sizeLine ∧ (a == sysModules) = false ∧ ∃ xs : List (List Key × Addr × Value),
      Paired (fun (p : List Key × V) (q : List Key × Addr × Value) => p.1 = q.1 ∧ H q.2.1 = some (.tup (p.1.map kV)) ∧ RelV p.2 q.2.2) kvs xs ∧
      ∃ o es ep, h.get? a = some o ∧ o.ExactDict ∧ o.data = .dict es ep ∧ es.toList = xs.map (entryOfKey (tupleKind (mixKind P w))) ∧ (xs.map (·.1)).Nodup
  | .set S n => h.SetOf (intKind P w) a S n
  | .ins C dx fs => H dx = some (.own a) ∧ fs.length ≤ 1000 ∧ dx ≠ a ∧ h.get? a = some (PySem.W.instObj C dx) ∧
      ∃ mA, h.Ns1 dx mA ∧ (∀ f, RelO (fs.lookup f) (mA f)) ∧ PySem.Within mA (fs.map (·.1))
  | .own _ => ∃ o, h.get? a = some o
  | .xd fs => ∃ mA, h.Ns1 a mA ∧ ∀ f, RelO (fs.lookup f) (mA f)
  | .rng lo hi => ∃ t u v, h.get? a = some { cls := .type "range", data := .fields #[.int lo t, .int hi u, .int 1 v] }
  | .frz o u => h.get? a = some o ∧ ObjOk H h a u
  | .tbl ps => h.get? a = some { cls := .none, data := .fields ps }
  | .met f x => h.get? a = some (PySem.W.methodObj (.ref f) (.ref x))
  | .ext φ => φ h ∧ (∃ o, h.get? a = some o) ∧ ∀ h1 h2 : Heap, φ h1 → (∀ o, h1.get? a = some o → h2.get? a = some o) → φ h2
def HOk (H : Hp) (h : Heap) : Prop := ∀ a o, H a = some o → ObjOk P w H h a o
end

section
variable {P : Program} {w : World} {H H' : Hp} {h h' : Heap} {a : Addr} {o : HO}
theorem ObjOk.lt (x : ObjOk P w H h a o) : a < h.objs.size := by
  cases o with
  | lst xs => obtain ⟨_, _, _, _, e⟩ := x; exact Heap.lt_size e
  | tup xs => obtain ⟨_, _, _, p⟩ := x; exact p.lt
  | dK kvs => obtain ⟨_, _, _, _, o, _, _, e, _⟩ := x; exact Heap.lt_size e
  | dT kvs => obtain ⟨_, _, _, _, o, _, _, e, _⟩ := x; exact Heap.lt_size e
  | set S n => obtain ⟨o, _, _, _, e, _⟩ := x; exact Heap.lt_size e
  | ins C dx fs => obtain ⟨_, _, _, e, _⟩ := x; exact Heap.lt_size e
  | own y => obtain ⟨_, e⟩ := x; exact Heap.lt_size e
  | xd fs => obtain ⟨_, ⟨_, _, _, e, _⟩, _⟩ := x; exact Heap.lt_size e
  | rng lo hi => obtain ⟨_, _, _, e⟩ := x; exact Heap.lt_size e
  | frz ob u => obtain ⟨e, _⟩ := x; exact Heap.lt_size e
  | tbl ps => exact Heap.lt_size (show h.get? a = some _ from x)
  | met f y => exact Heap.lt_size (show h.get? a = some _ from x)
  | ext φ => obtain ⟨_, ⟨_, e⟩, _⟩ := x; exact Heap.lt_size e
theorem Paired.mapP {α β : Type} {F G : α → β → Prop} : ∀ {l₁ : List α} {l₂ : List β}, Paired F l₁ l₂ → (∀ a b, F a b → G a b) → Paired G l₁ l₂
  | _, _, .nil, _ => .nil
  | _, _, .cons r t, f => .cons (f _ _ r) (Paired.mapP t f)
theorem ObjOk.stay (x : ObjOk P w H h a o) (k : ∀ b u, (b = a ∨ H b = some (.own a)) → h.get? b = some u → h'.get? b = some u)
    (ho : ∀ b, H b = some (.own a) → H' b = some (.own a)) (ht : ∀ b xs, H b = some (.tup xs) → H' b = some (.tup xs)) : ObjOk P w H' h' a o := by
  induction o with
  | lst xs => obtain ⟨z, its, n, r, e⟩ := x; exact ⟨z, its, n, r, k _ _ (.inl rfl) e⟩
  | tup xs => obtain ⟨z, its, r, ob, e, c⟩ := x; exact ⟨z, its, r, ob, k _ _ (.inl rfl) e, c⟩
  | dK kvs => obtain ⟨z, y, vs, r, ob, es, ep, e, c⟩ := x; exact ⟨z, y, vs, r, ob, es, ep, k _ _ (.inl rfl) e, c⟩
  | dT kvs =>
    obtain ⟨z, y, xs, r, ob, es, ep, e, c⟩ := x
    exact ⟨z, y, xs, Paired.mapP r fun p q z => ⟨z.1, ht _ _ z.2.1, z.2.2⟩, ob, es, ep, k _ _ (.inl rfl) e, c⟩
  | set S n => obtain ⟨ob, es, ep, t, e, c⟩ := x; exact ⟨ob, es, ep, t, k _ _ (.inl rfl) e, c⟩
  | ins C dx fs =>
    obtain ⟨d, z, ne, e, mA, ⟨od, es, ep, e2, c⟩, r⟩ := x
    exact ⟨ho _ d, z, ne, k _ _ (.inl rfl) e, mA, ⟨od, es, ep, k _ _ (.inr d) e2, c⟩, r⟩
  | own y => obtain ⟨ob, e⟩ := x; exact ⟨ob, k _ _ (.inl rfl) e⟩
  | xd fs => obtain ⟨mA, ⟨od, es, ep, e, c⟩, r⟩ := x; exact ⟨mA, ⟨od, es, ep, k _ _ (.inl rfl) e, c⟩, r⟩
  | rng lo hi => obtain ⟨t, u, v, e⟩ := x; exact ⟨t, u, v, k _ _ (.inl rfl) e⟩
  | frz ob u ih => obtain ⟨e, q⟩ := x; exact ⟨k _ _ (.inl rfl) e, ih q⟩
  | tbl ps =>
    have e : h.get? a = some { cls := .none, data := .fields ps } := x
    show h'.get? a = some { cls := .none, data := .fields ps }
    exact k a _ (.inl rfl) e
  | met f y =>
    have e : h.get? a = some (PySem.W.methodObj (.ref f) (.ref y)) := x
    show h'.get? a = some (PySem.W.methodObj (.ref f) (.ref y))
    exact k a _ (.inl rfl) e
  | ext φ => obtain ⟨p, ⟨o, e⟩, st⟩ := x; exact ⟨st _ _ p fun o q => k _ _ (.inl rfl) q, ⟨o, k _ _ (.inl rfl) e⟩, st⟩
theorem HOk.lt (x : HOk P w H h) (e : H a = some o) : a < h.objs.size := (x a o e).lt
theorem HOk.fresh (x : HOk P w H h) (e : h.objs.size ≤ a) : H a = none := by
  cases q : H a with
  | none => rfl
  | some u => exact absurd (Nat.lt_of_lt_of_le (x.lt q) e) (Nat.lt_irrefl _)
theorem HOk.kept (x : HOk P w H h) (k : ∀ b u, h.get? b = some u → h'.get? b = some u) : HOk P w H h' := fun a o e =>
  (x a o e).stay (fun b u _ q => k b u q) (fun _ q => q) fun _ _ q => q
theorem HOk.laid (x : HOk P w H h) (k : ∀ b u, h.get? b = some u → h'.get? b = some u) (hp : h.objs.size ≤ a) (new : ObjOk P w (upd H a o) h' a o) : HOk P w (upd H a o) h' := fun b u e => by
  have hn := x.fresh hp
  by_cases hb : b = a
  · subst hb; rw [upd_same] at e; cases e; exact new
  · rw [upd_ne hb] at e
    exact (x b u e).stay (fun c v _ q => k c v q) (fun c q => by rw [upd_ne (ne_of_none q hn)]; exact q) fun c xs q => by rw [upd_ne (ne_of_none q hn)]; exact q
end

def Rd (H : Hp) (a : Addr) (u : HO) : Prop := H a = some u ∨ ∃ o, H a = some (.frz o u)
theorem Rd.ok {P : Program} {w : World} {H : Hp} {h : Heap} {a : Addr} {u : HO} (r : Rd H a u) (x : HOk P w H h) : ObjOk P w H h a u := by
  rcases r with r | ⟨o, r⟩
  · exact x a u r
  · obtain ⟨_, q⟩ := x a _ r
    exact q
def Mut : Option HO → Prop
  | some (.lst _) => True
  | some (.dK _) => True
  | some (.dT _) => True
  | some (.set _ _) => True
  | some (.ins _ _ _) => True
  | some (.ext _) => True
  | _ => False
section
variable {P : Program} {w : World} {H : Hp} {h h' : Heap} {x e : Addr} {o' : HO}
theorem HOk.write (ok : HOk P w H h) (mu : Mut (H x)) (he : e = x ∨ H e = some (.own x)) (k : ∀ b u, b ≠ e → h.get? b = some u → h'.get? b = some u) (heo : ∃ u, h'.get? e = some u)
    (new : ObjOk P w (upd H x o') h' x o') : HOk P w (upd H x o') h' := fun b u q => by
  have nown : ∀ c y, H c = some (.own y) → c ≠ x := fun c y r z => by subst z; rw [r] at mu; exact mu
  have ntup : ∀ c xs, H c = some (.tup xs) → c ≠ x := fun c xs r z => by subst z; rw [r] at mu; exact mu
  by_cases hb : b = x
  · subst hb; rw [upd_same] at q; cases q; exact new
  · rw [upd_ne hb] at q
    by_cases hbe : b = e
    · have q' : H b = some (.own x) := by
        rcases he with z | z
        · exact absurd (hbe.trans z) hb
        · rw [hbe]; exact z
      rw [q] at q'; cases q'
      obtain ⟨v, hv⟩ := heo
      exact ⟨v, by rw [hbe]; exact hv⟩
    · refine (ok b u q).stay (fun c v hc r => k c v ?_ r) (fun c r => by rw [upd_ne (nown c b r)]; exact r) fun c xs r => by rw [upd_ne (ntup c xs r)]; exact r
      rcases hc with rfl | hc
      · exact hbe
      · rintro rfl
        rcases he with z | z
        · exact nown c b hc z
        · rw [hc] at z; cases z; exact hb rfl
end

structure Un (fs ex : List Addr) (H H' : Hp) (h h' : Heap) : Prop where
  keep : ∀ b o, h.get? b = some o → H b = none → b ∉ fs → b ∉ ex → h'.get? b = some o
  slot : ∀ b o, h.get? b = some o → H b = none → b ∈ fs → b ∉ ex → ∃ sl, h'.get? b = some { o with slots := sl }
  free : ∀ b o, h.get? b = some o → H b = none → b ∉ ex → H' b = none
  there : ∀ b o, h.get? b = some o → b ∉ ex → ∃ o', h'.get? b = some o'
  tups : ∀ b xs, H b = some (.tup xs) → H' b = some (.tup xs)
  frzs : ∀ b o u, H b = some (.frz o u) → H' b = some (.frz o u)
  tbls : ∀ b ps, H b = some (.tbl ps) → ∃ more, H' b = some (.tbl (ps ++ more))
section
variable {fs fs' ex ex' : List Addr} {H H1 H2 : Hp} {h h1 h2 h' : Heap} {a x e : Addr} {o : HO}
theorem Un.any (u : Un fs ex H H1 h h1) {b : Addr} {ob : Obj} (q : h.get? b = some ob) (n : H b = none) (hx : b ∉ ex) : ∃ sl, h1.get? b = some { ob with slots := sl } := by
  by_cases hb : b ∈ fs
  · exact u.slot b ob q n hb hx
  · exact ⟨ob.slots, u.keep b ob q n hb hx⟩
theorem Un.trans (a : Un fs ex H H1 h h1) (b : Un fs ex H1 H2 h1 h2) : Un fs ex H H2 h h2 where
  keep := fun c ob q n hc hx => b.keep c ob (a.keep c ob q n hc hx) (a.free c ob q n hx) hc hx
  slot := fun c ob q n hc hx => by
    obtain ⟨sl, e1⟩ := a.slot c ob q n hc hx
    obtain ⟨sl', e2⟩ := b.slot c _ e1 (a.free c ob q n hx) hc hx
    exact ⟨sl', e2⟩
  free := fun c ob q n hx => by
    obtain ⟨o', e1⟩ := a.there c ob q hx
    exact b.free c o' e1 (a.free c ob q n hx) hx
  there := fun c ob q hx => by
    obtain ⟨o', e1⟩ := a.there c ob q hx
    exact b.there c o' e1 hx
  tups := fun c xs q => b.tups c xs (a.tups c xs q)
  frzs := fun c ob xs q => b.frzs c ob xs (a.frzs c ob xs q)
  tbls := fun c ps q => by
    obtain ⟨m1, e1⟩ := a.tbls c ps q
    obtain ⟨m2, e2⟩ := b.tbls c _ e1
    exact ⟨m1 ++ m2, by rw [e2, Array.append_assoc]⟩
theorem Un.kept (k : ∀ b u, h.get? b = some u → h'.get? b = some u) : Un fs ex H H h h' :=
  ⟨fun b ob q _ _ _ => k b ob q, fun b ob q _ _ _ => ⟨ob.slots, k b ob q⟩, fun _ _ _ n _ => n, fun b ob q _ => ⟨ob, k b ob q⟩, fun _ _ q => q, fun _ _ _ q => q, fun _ ps q => ⟨#[], by rw [q]; simp⟩⟩
theorem Un.refl : Un fs ex H H h h := Un.kept fun _ _ q => q
theorem Un.laid (k : ∀ b u, h.get? b = some u → h'.get? b = some u) (hp : h.objs.size ≤ a) (hn : H a = none) : Un fs ex H (upd H a o) h h' where
  keep := fun b u q _ _ _ => k b u q
  slot := fun b u q _ _ _ => ⟨u.slots, k b u q⟩
  free := fun b u q n _ => by rw [upd_ne (Nat.ne_of_lt (Nat.lt_of_lt_of_le (Heap.lt_size q) hp))]; exact n
  there := fun b u q _ => ⟨u, k b u q⟩
  tups := fun b xs q => by rw [upd_ne (ne_of_none q hn)]; exact q
  frzs := fun b u xs q => by rw [upd_ne (ne_of_none q hn)]; exact q
  tbls := fun b ps q => ⟨#[], by rw [upd_ne (ne_of_none q hn), q]; simp⟩
theorem Un.write (mu : Mut (H x)) (he : e = x ∨ H e = some (.own x)) (k : ∀ b u, b ≠ e → h.get? b = some u → h'.get? b = some u) (heo : ∃ u, h'.get? e = some u) : Un fs ex H (upd H x o) h h' := by
  have hx : ∀ b, H b = none → b ≠ x := fun b n z => by subst z; rw [n] at mu; exact mu
  have hb : ∀ b, H b = none → b ≠ e := fun b n z => by
    subst z
    rcases he with r | r
    · exact hx b n r
    · rw [n] at r; cases r
  have hm : ∀ b u, H b = some u → ¬ Mut (some u) → b ≠ x := fun b u q nm z => by subst z; rw [q] at mu; exact nm mu
  refine ⟨fun b u q n _ _ => k b u (hb b n) q, fun b u q n _ _ => ⟨u.slots, k b u (hb b n) q⟩, fun b u q n _ => by rw [upd_ne (hx b n)]; exact n, fun b u q _ => ?_,
    fun b xs q => by rw [upd_ne (hm b _ q fun z => z)]; exact q, fun b u xs q => by rw [upd_ne (hm b _ q fun z => z)]; exact q, fun b ps q => ⟨#[], by rw [upd_ne (hm b _ q fun z => z), q]; simp⟩⟩
  by_cases hbe : b = e
  · subst hbe; exact heo
  · exact ⟨u, k b u hbe q⟩
end

def trk (h : Heap) (H : Hp) : List Addr := (List.range h.objs.size).filter fun a => (H a).isSome
def hidT (h : Heap) (H : Hp) : Heap := PySem.W.hideAll h (trk h H)
theorem hidT_size (h : Heap) (H : Hp) : (hidT h H).objs.size = h.objs.size := PySem.W.hideAll_size _ _
theorem hidT_get {h : Heap} {H : Hp} {b : Addr} {o : Obj} (e : h.get? b = some o) (n : H b = none) : (hidT h H).get? b = some o :=
  PySem.W.hideAll_get _ e fun hm => by
    have q : (H b).isSome = true := (List.mem_filter.mp hm).2
    rw [n] at q; simp at q
theorem of_hidT {h : Heap} {H : Hp} {b : Addr} {o : Obj} (e : (hidT h H).get? b = some o) : h.get? b = some o ∧ H b = none := by
  have e' : h.get? b = some o := PySem.W.of_hideAll (trk h H) e
  refine ⟨e', ?_⟩
  cases q : H b with
  | none => rfl
  | some x =>
    have hm : b ∈ trk h H := List.mem_filter.mpr ⟨List.mem_range.mpr (Heap.lt_size e'), by simp [q]⟩
    have z : (hidT h H).get? b = none := PySem.W.hideAll_none (trk h H) hm
    rw [z] at e; cases e

def allNews (g h : Heap) (L : Addr) : List (Addr × Obj) := (List.range h.objs.size).filterMap fun a => if a = L ∨ (g.get? a).isSome = true then none else (h.get? a).map fun o => (a, o)
def rest (g h : Heap) (L d : Addr) : List (Addr × Obj) := (allNews g h L).filter fun p => decide (p.1 ≠ d)
end L2

namespace L2
open PySem PySem.Spec PyProof.Rows

structure Mod (K : PySem.W.Frag) (mg : Str → Option Value) (base : Heap) : Prop where
  kin : K.In base
  glob : base.Ns mainGlobals mg
  blt : ∃ mb, base.Ns builtinsNs mb ∧ ∀ x : Str, x ≠ "__name__" → mb x = bootBuiltins x
  nolimit : base.NoLimit

structure Cx where
  prog : Program
  w : World
  K : PySem.W.Frag
  mg : Str → Option Value
  base : Heap
  A : Around
  N : List Str
  s₀ : Shared
  H₀ : Hp
  env : Env
  outer : List Env
  stack : List Env
  ex : List Addr
  fn : Str → Bool
  calm : Bool
  pn : List (Addr × Obj)
  xe : Value → Shared → Prop
def frs (l : List Env) : List Addr := l.filterMap (·.frame)
abbrev Cx.fs (X : Cx) : List Addr := frs X.outer

def Vis (sc : Scope) (x : Str) : Prop := sc.names.lookup x = some .local ∨ sc.names.lookup x = some .cell ∨ sc.names.lookup x = some .free
def Loc (sc : Scope) (x : Str) : Prop := sc.names.lookup x = some .local ∨ sc.names.lookup x = some .cell
def Look (env : Env) (h : Heap) (m : Str → Option Value) (x : Str) (u : Value) : Prop :=
  (env.kindOf x = some .local ∧ m x = some u) ∨ ((env.kindOf x = some .cell ∨ env.kindOf x = some .free) ∧ ∃ c, env.cells.lookup x = some c ∧ h.IsCell c (some u))

structure Cx.Ok (X : Cx) : Prop where
  mod : Mod X.K X.mg X.base
  kind : X.env.scope.kind = .function
  glob : X.env.globals = mainGlobals
  blt : X.env.builtins = builtinsNs
  above : X.s₀.heap.objs.size ≤ X.env.locals
  inj : ∀ x y c, X.env.cells.lookup x = some c → X.env.cells.lookup y = some c → x = y
  has : ∀ x, (X.env.kindOf x = some .cell ∨ X.env.kindOf x = some .free) → ∃ c, X.env.cells.lookup x = some c
  cab : ∀ x c, X.fn x = true → X.env.cells.lookup x = some c → X.s₀.heap.objs.size ≤ c
  hd : X.calm = true → X.A.handled = none
  frames : X.A.frames = some X.stack
  stk : X.stack = X.outer ∨ (X.stack = X.env :: X.outer ∧ X.env.frame = some X.env.locals)
  exf : ∀ b ∈ X.ex, b ≠ X.env.locals ∧ ∀ x c, X.env.cells.lookup x = some c → c ≠ b
  bs : ∀ b o, X.base.get? b = some o → X.s₀.heap.get? b = some o ∧ X.H₀ b = none
  bsz : X.base.objs.size ≤ X.s₀.heap.objs.size
  noex : ∀ b o, X.base.get? b = some o → b ∉ X.ex
  exfs : ∀ b ∈ X.ex, b ∉ X.fs
  funs : X.s₀.heap.FunFrames X.base X.outer
  frf : ∀ b ∈ X.fs, X.H₀ b = none

structure Inv (X : Cx) (pins : List (Addr × Obj)) (σ : List (Option V)) (H : Hp) (s : Shared) : Prop where
  ok : X.Ok
  os : s.os = X.s₀.os
  bare : AllBare s.gens
  base : Un X.fs X.ex X.H₀ H X.s₀.heap s.heap
  loc : ∃ m, s.heap.Ns X.env.locals m ∧ ∀ (i : Nat) (x : Str) (v : V), X.N[i]? = some x → σ[i]? = some (some v) → Vis X.env.scope x → ∃ u, RelV v u ∧ Look X.env s.heap m x u
  cell : ∀ x c, X.env.cells.lookup x = some c → ∃ v, s.heap.IsCell c v
  free : H X.env.locals = none
  freeC : ∀ x c, X.env.cells.lookup x = some c → H c = none
  pin : ∀ p ∈ X.pn ++ pins, s.heap.get? p.1 = some p.2 ∧ H p.1 = none ∧ p.1 ≠ X.env.locals ∧ p.1 ∉ X.fs ∧ ∀ v, p.2.data ≠ .cell v
  hok : HOk X.prog X.w H s.heap
  len : σ.length = X.N.length

section
variable {X : Cx} {pins : List (Addr × Obj)} {σ : List (Option V)} {H H' : Hp} {s : Shared} {h' : Heap}

theorem Cx.Ok.nofr (ok : X.Ok) {b : Addr} {o : Obj} (e : X.base.get? b = some o) : b ∉ X.fs := fun hb => by
  have := (ok.funs.mem hb).1
  rw [e] at this; cases this
theorem Inv.bs (I : Inv X pins σ H s) : ∀ b o, X.base.get? b = some o → s.heap.get? b = some o ∧ H b = none := fun b o e =>
  ⟨I.base.keep b o (I.ok.bs b o e).1 (I.ok.bs b o e).2 (I.ok.nofr e) (I.ok.noex b o e), I.base.free b o (I.ok.bs b o e).1 (I.ok.bs b o e).2 (I.ok.noex b o e)⟩
theorem Inv.bk (I : Inv X pins σ H s) : ∀ b o, X.base.get? b = some o → s.heap.get? b = some o := fun b o e => (I.bs b o e).1
theorem Inv.mod (I : Inv X pins σ H s) : Mod X.K X.mg X.base := I.ok.mod
theorem Inv.kIn (I : Inv X pins σ H s) : X.K.In s.heap := I.ok.mod.kin.keeps I.bk
theorem Inv.lt (I : Inv X pins σ H s) : X.env.locals < s.heap.objs.size := let ⟨_, hn, _⟩ := I.loc; hn.lt
theorem Inv.sz (I : Inv X pins σ H s) : X.s₀.heap.objs.size ≤ s.heap.objs.size := Nat.le_trans I.ok.above (Nat.le_of_lt I.lt)
theorem Inv.nofs (I : Inv X pins σ H s) {a : Addr} (h : s.heap.objs.size ≤ a) : a ∉ X.fs := fun hb => by
  obtain ⟨_, o, ho, _⟩ := I.ok.funs.mem hb
  exact absurd (Nat.lt_of_lt_of_le (Heap.lt_size ho) (Nat.le_trans I.sz h)) (Nat.lt_irrefl _)
theorem Inv.cne (I : Inv X pins σ H s) : ∀ x c, X.env.cells.lookup x = some c → c ≠ X.env.locals := fun x c e z => by
  obtain ⟨v, o, ho, hd⟩ := I.cell x c e
  obtain ⟨m, ⟨o', es, ep, ho', hd', _⟩, _⟩ := I.loc
  rw [z, ho'] at ho; cases ho; rw [hd'] at hd; cases hd
theorem Inv.funs (I : Inv X pins σ H s) : s.heap.FunFrames X.base X.outer := by
  have all : ∀ (l : List Env), (∀ b ∈ frs l, b ∈ X.fs) → X.s₀.heap.FunFrames X.base l → s.heap.FunFrames X.base l := by
    intro l
    induction l with
    | nil => intro _ _; trivial
    | cons env r ih =>
      intro hs hl
      obtain ⟨hk, ⟨L, o, hf, hn, ho, hd⟩, hr⟩ := hl
      have hL : L ∈ X.fs := hs L (by unfold frs; rw [List.filterMap_cons, hf]; exact List.mem_cons_self)
      obtain ⟨sl, e⟩ := I.base.slot L o ho (I.ok.frf L hL) hL fun z => I.ok.exfs L z hL
      exact ⟨hk, ⟨L, _, hf, hn, e, hd⟩, ih (fun b hb => hs b (by unfold frs; rw [List.filterMap_cons, hf]; exact List.mem_cons_of_mem _ hb)) hr⟩
  exact all X.outer (fun _ hb => hb) I.ok.funs

theorem Inv.stack (I : Inv X pins σ H s) : s.heap.FunFrames X.base X.stack := by
  rcases I.ok.stk with e | ⟨e, hf⟩
  · rw [e]; exact I.funs
  · rw [e]
    obtain ⟨m, hn, _⟩ := I.loc
    refine .cons (by rw [I.ok.kind]; decide) hf hn ?_ I.funs
    exact Heap.get?_none_of_le (Nat.le_trans I.ok.bsz I.ok.above)
theorem Inv.stkSub (I : Inv X pins σ H s) : ∀ b ∈ frs X.stack, b ∈ X.env.locals :: X.fs := fun b hb => by
  rcases I.ok.stk with e | ⟨e, hf⟩
  · rw [e] at hb; exact List.mem_cons_of_mem _ hb
  · rw [e] at hb
    unfold frs at hb
    rw [List.filterMap_cons, hf] at hb
    exact hb
theorem Inv.stkFree (I : Inv X pins σ H s) : ∀ b ∈ frs X.stack, H b = none := fun b hb => by
  rcases List.mem_cons.mp (I.stkSub b hb) with e | hb
  · rw [e]; exact I.free
  · obtain ⟨_, o, ho, _⟩ := I.ok.funs.mem hb
    exact I.base.free b o ho (I.ok.frf b hb) fun z => I.ok.exfs b z hb

theorem Inv.step {g' : Array GenState} {t' : Nat} {d' : Drawn} {ch : List Addr} (I : Inv X pins σ H s)
    (hch : ∀ b ∈ ch, (b ∈ X.ex ∨ X.s₀.heap.objs.size ≤ b) ∧ b ≠ X.env.locals ∧ (∀ x c, X.env.cells.lookup x = some c → c ≠ b) ∧ ∀ p ∈ X.pn ++ pins, p.1 ≠ b)
    (keep : ∀ b o, b ≠ X.env.locals → b ∉ X.fs → b ∉ ch → s.heap.get? b = some o → H b = none → h'.get? b = some o)
    (slot : ∀ b o, b ≠ X.env.locals → b ∈ X.fs → b ∉ ch → s.heap.get? b = some o → H b = none → ∃ sl, h'.get? b = some { o with slots := sl }) (free : ∀ b o, b ∉ ch → s.heap.get? b = some o → H b = none → H' b = none)
    (there : ∀ b o, b ∉ ch → s.heap.get? b = some o → ∃ o', h'.get? b = some o')
    (tups : ∀ b xs, H b = some (.tup xs) → H' b = some (.tup xs)) (frzs : ∀ b o u, H b = some (.frz o u) → H' b = some (.frz o u)) (tbls : ∀ b ps, H b = some (.tbl ps) → ∃ more, H' b = some (.tbl (ps ++ more)))
    (ns : ∀ m, s.heap.Ns X.env.locals m → h'.Ns X.env.locals m) (hok : HOk X.prog X.w H' h') (hg : AllBare g') :
    Inv X pins σ H' { s with heap := h', gens := g', drawn := d', toks := t' } := by
  have neL : ∀ b o, X.s₀.heap.get? b = some o → b ≠ X.env.locals := fun b o e => Nat.ne_of_lt (Nat.lt_of_lt_of_le (Heap.lt_size e) I.ok.above)
  have neC : ∀ b o, X.s₀.heap.get? b = some o → b ∉ X.ex → b ∉ ch := fun b o e hx hb => by
    rcases (hch b hb).1 with z | z
    · exact hx z
    · exact absurd (Nat.lt_of_lt_of_le (Heap.lt_size e) z) (Nat.lt_irrefl _)
  have cellK : ∀ x c, X.env.cells.lookup x = some c → ∀ v, s.heap.IsCell c v → h'.IsCell c v := fun x c e v ⟨o, ho, hd⟩ => by
    have nch : c ∉ ch := fun z => (hch c z).2.2.1 x c e rfl
    by_cases hc : c ∈ X.fs
    · obtain ⟨sl, q⟩ := slot c o (I.cne x c e) hc nch ho (I.freeC x c e)
      exact ⟨_, q, hd⟩
    · exact ⟨o, keep c o (I.cne x c e) hc nch ho (I.freeC x c e), hd⟩
  refine ⟨I.ok, I.os, hg, ⟨fun b o e n hb hx => ?_, fun b o e n hb hx => ?_, fun b o e n hx => ?_, fun b o e hx => ?_, fun b xs e => tups b xs (I.base.tups b xs e), fun b o xs e => frzs b o xs (I.base.frzs b o xs e), fun b ps e => ?_⟩, ?_, fun x c e => ?_, ?_, fun x c e => ?_, fun p hp => ?_, hok, I.len⟩
  · exact keep b o (neL b o e) hb (neC b o e hx) (I.base.keep b o e n hb hx) (I.base.free b o e n hx)
  · obtain ⟨sl, e1⟩ := I.base.slot b o e n hb hx
    obtain ⟨sl', e2⟩ := slot b _ (neL b o e) hb (neC b o e hx) e1 (I.base.free b o e n hx)
    exact ⟨sl', e2⟩
  · obtain ⟨o', e1⟩ := I.base.there b o e hx
    exact free b o' (neC b o e hx) e1 (I.base.free b o e n hx)
  · obtain ⟨o', e1⟩ := I.base.there b o e hx
    exact there b o' (neC b o e hx) e1
  · obtain ⟨m1, e1⟩ := I.base.tbls b ps e
    obtain ⟨m2, e2⟩ := tbls b _ e1
    exact ⟨m1 ++ m2, by rw [e2, Array.append_assoc]⟩
  · obtain ⟨m, hn, hl⟩ := I.loc
    refine ⟨m, ns m hn, fun i x v e1 e2 e3 => ?_⟩
    obtain ⟨u, r, l⟩ := hl i x v e1 e2 e3
    refine ⟨u, r, ?_⟩
    rcases l with l | ⟨k, c, e, z⟩
    · exact .inl l
    · exact .inr ⟨k, c, e, cellK x c e _ z⟩
  · obtain ⟨v, z⟩ := I.cell x c e
    exact ⟨v, cellK x c e v z⟩
  · obtain ⟨m, ⟨o, _, _, ho, _⟩, _⟩ := I.loc
    exact free _ o (fun z => (hch _ z).2.1 rfl) ho I.free
  · obtain ⟨v, o, ho, hd⟩ := I.cell x c e
    exact free c o (fun z => (hch c z).2.2.1 x c e rfl) ho (I.freeC x c e)
  · obtain ⟨e, n, ne, nf, d⟩ := I.pin p hp
    have nch : p.1 ∉ ch := fun z => (hch p.1 z).2.2.2 p hp rfl
    exact ⟨keep p.1 p.2 ne nf nch e n, free p.1 p.2 nch e n, ne, nf, d⟩
theorem Inv.un {t' : Nat} (I : Inv X pins σ H s) (u : Un X.fs [] H H' s.heap h') (hok : HOk X.prog X.w H' h') : Inv X pins σ H' { s with heap := h', toks := t' } := by
  obtain ⟨m, ⟨o, es, ep, ho, r⟩, _⟩ := id I.loc
  obtain ⟨sl, hL⟩ := u.any ho I.free (by simp)
  exact I.step (g' := s.gens) (d' := s.drawn) (ch := []) (fun _ z => nomatch z) (fun b o _ hb _ e n => u.keep b o e n hb (by simp)) (fun b o _ hb _ e n => u.slot b o e n hb (by simp)) (fun b o _ e n => u.free b o e n (by simp)) (fun b o _ e => u.there b o e (by simp)) u.tups u.frzs u.tbls (fun m' hm => by
    obtain ⟨o', es', ep', ho', r'⟩ := hm
    rw [ho] at ho'; cases ho'
    exact ⟨_, es', ep', hL, r'⟩) hok I.bare
theorem Inv.call {g' : Array GenState} {t' : Nat} {d' : Drawn} {ch : List Addr} (I : Inv X pins σ H s) (u : Un (frs X.stack) ch H H' s.heap h') (hok : HOk X.prog X.w H' h') (hg : AllBare g')
    (hch : ∀ b ∈ ch, (b ∈ X.ex ∨ X.s₀.heap.objs.size ≤ b) ∧ b ≠ X.env.locals ∧ (∀ x c, X.env.cells.lookup x = some c → c ≠ b) ∧ ∀ p ∈ X.pn ++ pins, p.1 ≠ b) :
    Inv X pins σ H' { s with heap := h', gens := g', drawn := d', toks := t' } := by
  obtain ⟨m, ⟨o, es, ep, ho, r⟩, _⟩ := id I.loc
  obtain ⟨sl, hL⟩ := u.any ho I.free fun z => (hch _ z).2.1 rfl
  exact I.step (ch := ch) hch (fun b o hL hb hc e n => u.keep b o e n (fun z => (List.mem_cons.mp (I.stkSub b z)).elim hL hb) hc) (fun b o _ _ hc e n => u.any e n hc) (fun b o hc e n => u.free b o e n hc) (fun b o hc e => u.there b o e hc) u.tups u.frzs u.tbls (fun m' hm => by
    obtain ⟨o', es', ep', ho', r'⟩ := hm
    rw [ho] at ho'; cases ho'
    exact ⟨_, es', ep', hL, r'⟩) hok hg
theorem Inv.turned {t' : Nat} {it : Addr} (I : Inv X pins σ H s) (k : ∀ b o, b ≠ it → s.heap.get? b = some o → h'.get? b = some o) (hn : H it = none) (hL : it ≠ X.env.locals)
    (h1 : it ∈ X.ex ∨ X.s₀.heap.objs.size ≤ it) (h2 : ∀ x c, X.env.cells.lookup x = some c → c ≠ it) (h3 : ∀ p ∈ X.pn ++ pins, p.1 ≠ it) : Inv X pins σ H { s with heap := h', toks := t' } := by
  have nit : ∀ b u, H b = some u → b ≠ it := fun b u e z => by rw [z, hn] at e; cases e
  refine I.step (g' := s.gens) (d' := s.drawn) (ch := [it]) (fun b hb => ?_) (fun b o _ _ hc e _ => k b o (fun z => hc (by simp [z])) e) (fun b o _ _ hc e _ => ⟨o.slots, k b o (fun z => hc (by simp [z])) e⟩) (fun _ _ _ _ n => n)
    (fun b o hc e => ⟨o, k b o (fun z => hc (by simp [z])) e⟩) (fun _ _ e => e) (fun _ _ _ e => e) (fun b ps e => ⟨#[], by rw [e]; simp⟩) (fun m hm => ?_) (fun b u e => ?_) I.bare
  · have e : b = it := by simpa using hb
    subst e
    exact ⟨h1, hL, h2, h3⟩
  · obtain ⟨o, es, ep, ho, r⟩ := hm
    exact ⟨o, es, ep, k _ o (Ne.symm hL) ho, r⟩
  · refine (I.hok b u e).stay (fun c v hc q => k c v ?_ q) (fun _ q => q) fun _ _ q => q
    rcases hc with z | z
    · rw [z]; exact nit b u e
    · exact nit c _ z
theorem Inv.tok (I : Inv X pins σ H s) (t : Nat) : Inv X pins σ H { s with toks := t } := I.un (h' := s.heap) (t' := t) Un.refl I.hok
theorem Inv.kept {t' : Nat} (I : Inv X pins σ H s) (k : ∀ b u, s.heap.get? b = some u → h'.get? b = some u) : Inv X pins σ H { s with heap := h', toks := t' } := I.un (Un.kept k) (I.hok.kept k)
theorem Inv.laid {a : Addr} {o : HO} {t' : Nat} (I : Inv X pins σ H s) (k : ∀ b u, s.heap.get? b = some u → h'.get? b = some u) (hp : s.heap.objs.size ≤ a) (new : ObjOk X.prog X.w (upd H a o) h' a o) :
    Inv X pins σ (upd H a o) { s with heap := h', toks := t' } := I.un (Un.laid k hp (I.hok.fresh hp)) (I.hok.laid k hp new)
theorem Inv.write {x e : Addr} {o : HO} {t' : Nat} (I : Inv X pins σ H s) (mu : Mut (H x)) (he : e = x ∨ H e = some (.own x)) (k : ∀ b u, b ≠ e → s.heap.get? b = some u → h'.get? b = some u) (heo : ∃ u, h'.get? e = some u)
    (new : ObjOk X.prog X.w (upd H x o) h' x o) : Inv X pins σ (upd H x o) { s with heap := h', toks := t' } := I.un (Un.write mu he k heo) (I.hok.write mu he k heo new)
theorem Inv.pins_of {pins' : List (Addr × Obj)} (I : Inv X pins σ H s) (h : ∀ p ∈ pins', s.heap.get? p.1 = some p.2 ∧ H p.1 = none ∧ p.1 ≠ X.env.locals ∧ p.1 ∉ X.fs ∧ ∀ v, p.2.data ≠ .cell v) : Inv X pins' σ H s :=
  ⟨I.ok, I.os, I.bare, I.base, I.loc, I.cell, I.free, I.freeC, fun p hp => (List.mem_append.mp hp).elim (fun z => I.pin p (List.mem_append_left _ z)) (h p), I.hok, I.len⟩

theorem nodup_ix {N : List Str} (hN : N.Nodup) {i j : Nat} {x : Str} (a : N[i]? = some x) (b : N[j]? = some x) : i = j := by
  obtain ⟨h1, e1⟩ := List.getElem?_eq_some_iff.mp a
  obtain ⟨h2, e2⟩ := List.getElem?_eq_some_iff.mp b
  exact (List.getElem_inj hN).mp (e1.trans e2.symm)

theorem store_ok2 {M : Model} {A : Around} {E : Value → Shared → Prop} {i : Nat} {x : Str} {v : V} {u : Value} {Q : Unit → Shared → Prop} (I : Inv X pins σ H s) (hN : X.N.Nodup) (hi : X.N[i]? = some x) (hx : Loc X.env.scope x) (r : RelV v u)
    (h : ∀ s', Inv X pins (σ.set i (some v)) H s' → (∃ a, Heap.SameBut a s.heap s'.heap ∧ (a = X.env.locals ∨ X.env.cells.lookup x = some a)) → Q () s') (hf : X.fn x = true ∨ X.env.scope.names.lookup x = some .local := by first | exact .inl rfl | exact .inr rfl | assumption) : wpAny M A (storeName X.env x u) Q E s := by
  obtain ⟨m, hn, hl⟩ := id I.loc
  have hcls : (X.env.scope.kind == .class || (X.env.scope.kind == .module && X.env.locals != X.env.globals)) = false := by rw [I.ok.kind]; rfl
  have hiσ : i < σ.length := by rw [I.len]; exact (List.getElem?_eq_some_iff.mp hi).1
  have cne := I.cne
  have tracked : ∀ {a : Addr} {h' : Heap}, (∃ o, s.heap.get? a = some o ∧ H a = none) → Heap.SameBut a s.heap h' → HOk X.prog X.w H h' := fun {a h'} ha hs b ob e => by
    obtain ⟨_, _, hfree⟩ := ha
    refine (I.hok b ob e).stay (fun c w' hc q => (hs.2 c ?_).trans q) (fun _ q => q) fun _ _ q => q
    rintro rfl
    rcases hc with rfl | hc
    · rw [hfree] at e; cases e
    · rw [hfree] at hc; cases hc
  rcases hx with hk | hk
  · refine wpAny_storeName_local hk hn (fun h' hn' hs => ?_) hcls
    obtain ⟨oL, _, _, hoL, _⟩ := id hn
    refine h _ ⟨I.ok, I.os, I.bare, ⟨fun b o e n hb hx => ?_, fun b o e n hb hx => ?_, I.base.free, fun b o e hx => ?_, I.base.tups, I.base.frzs, I.base.tbls⟩, ⟨_, hn', fun j y v' e1 e2 e3 => ?_⟩, fun y c e => ?_, I.free, I.freeC, fun p hp => ?_, tracked ⟨oL, hoL, I.free⟩ hs, by simpa using I.len⟩ ⟨_, hs, .inl rfl⟩
    · exact (hs.2 b (Nat.ne_of_lt (Nat.lt_of_lt_of_le (Heap.lt_size e) I.ok.above))).trans (I.base.keep b o e n hb hx)
    · obtain ⟨sl, e1⟩ := I.base.slot b o e n hb hx
      exact ⟨sl, (hs.2 b (Nat.ne_of_lt (Nat.lt_of_lt_of_le (Heap.lt_size e) I.ok.above))).trans e1⟩
    · obtain ⟨o', e1⟩ := I.base.there b o e hx
      exact ⟨o', (hs.2 b (Nat.ne_of_lt (Nat.lt_of_lt_of_le (Heap.lt_size e) I.ok.above))).trans e1⟩
    · by_cases hj : j = i
      · subst hj
        rw [hi] at e1; cases e1
        rw [List.getElem?_set_self hiσ] at e2
        cases e2
        exact ⟨u, r, .inl ⟨hk, by simp⟩⟩
      · rw [List.getElem?_set_ne (Ne.symm hj)] at e2
        obtain ⟨u', r', q⟩ := hl j y v' e1 e2 e3
        refine ⟨u', r', ?_⟩
        rcases q with ⟨k, e⟩ | ⟨k, c, e, z⟩
        · refine .inl ⟨k, ?_⟩
          have : y ≠ x := fun e => hj (nodup_ix hN e1 (e ▸ hi))
          simp [this, e]
        · exact .inr ⟨k, c, e, z.sameBut hs (cne y c e)⟩
    · obtain ⟨w', z⟩ := I.cell y c e
      exact ⟨w', z.sameBut hs (cne y c e)⟩
    · obtain ⟨e, n, ne, nf, d⟩ := I.pin p hp
      exact ⟨(hs.2 p.1 ne).trans e, n, ne, nf, d⟩
  · have hfn : X.fn x = true := by
      rcases hf with z | z
      · exact z
      · rw [z] at hk; cases hk
    obtain ⟨c, hc⟩ := I.ok.has x (.inl hk)
    obtain ⟨w', z⟩ := I.cell x c hc
    refine wpAny_storeName_cell I.ok.kind hk hc z (fun h' hc' hs => ?_)
    obtain ⟨oc, hoc, hocd⟩ := id z
    refine h { s with heap := h' } ⟨I.ok, I.os, I.bare, ⟨fun b o e n hb hx => ?_, fun b o e n hb hx => ?_, I.base.free, fun b o e hx => ?_, I.base.tups, I.base.frzs, I.base.tbls⟩, ⟨m, hn.sameBut hs (Ne.symm (cne x c hc)), fun j y v' e1 e2 e3 => ?_⟩, fun y c' e => ?_, I.free, I.freeC, fun p hp => ?_, tracked ⟨oc, hoc, I.freeC x c hc⟩ hs, by simpa using I.len⟩ ⟨c, hs, .inr hc⟩
    · exact (hs.2 b (Nat.ne_of_lt (Nat.lt_of_lt_of_le (Heap.lt_size e) (I.ok.cab x c hfn hc)))).trans (I.base.keep b o e n hb hx)
    · obtain ⟨sl, e1⟩ := I.base.slot b o e n hb hx
      exact ⟨sl, (hs.2 b (Nat.ne_of_lt (Nat.lt_of_lt_of_le (Heap.lt_size e) (I.ok.cab x c hfn hc)))).trans e1⟩
    · obtain ⟨o', e1⟩ := I.base.there b o e hx
      exact ⟨o', (hs.2 b (Nat.ne_of_lt (Nat.lt_of_lt_of_le (Heap.lt_size e) (I.ok.cab x c hfn hc)))).trans e1⟩
    · by_cases hj : j = i
      · subst hj
        rw [hi] at e1; cases e1
        rw [List.getElem?_set_self hiσ] at e2
        cases e2
        exact ⟨u, r, .inr ⟨.inl hk, c, hc, hc'⟩⟩
      · rw [List.getElem?_set_ne (Ne.symm hj)] at e2
        obtain ⟨u', r', q⟩ := hl j y v' e1 e2 e3
        refine ⟨u', r', ?_⟩
        rcases q with q | ⟨k, c', e, z'⟩
        · exact .inl q
        · refine .inr ⟨k, c', e, z'.sameBut hs ?_⟩
          rintro rfl
          exact hj (nodup_ix hN e1 (I.ok.inj _ _ _ e hc ▸ hi))
    · by_cases hcc : c' = c
      · subst hcc; exact ⟨_, hc'⟩
      · obtain ⟨w2, z2⟩ := I.cell y c' e
        exact ⟨w2, z2.sameBut hs hcc⟩
    · obtain ⟨e, n, ne, nf, d⟩ := I.pin p hp
      refine ⟨(hs.2 p.1 ?_).trans e, n, ne, nf, d⟩
      intro q
      rw [q, hoc] at e
      have q' : oc = p.2 := Option.some.inj e
      exact d w' (by rw [← q']; exact hocd)
theorem store_ok {M : Model} {A : Around} {E : Value → Shared → Prop} {i : Nat} {x : Str} {v : V} {u : Value} {Q : Unit → Shared → Prop} (I : Inv X pins σ H s) (hN : X.N.Nodup) (hi : X.N[i]? = some x) (hx : Loc X.env.scope x) (r : RelV v u)
    (h : ∀ s', Inv X pins (σ.set i (some v)) H s' → Q () s') (hf : X.fn x = true ∨ X.env.scope.names.lookup x = some .local := by first | exact .inl rfl | exact .inr rfl | assumption) : wpAny M A (storeName X.env x u) Q E s :=
  store_ok2 I hN hi hx r (fun s' I' _ => h s' I') hf
theorem Inv.call' {s' : Shared} {ch : List Addr} (I : Inv X pins σ H s) (ho : s'.os = s.os) (u : Un (frs X.stack) ch H H' s.heap s'.heap) (hok : HOk X.prog X.w H' s'.heap) (hg : AllBare s'.gens)
    (hch : ∀ b ∈ ch, (b ∈ X.ex ∨ X.s₀.heap.objs.size ≤ b) ∧ b ≠ X.env.locals ∧ (∀ x c, X.env.cells.lookup x = some c → c ≠ b) ∧ ∀ p ∈ X.pn ++ pins, p.1 ≠ b) : Inv X pins σ H' s' := by
  obtain ⟨h', g', d', t', o'⟩ := s'
  have e : o' = s.os := ho
  subst e
  exact I.call (g' := g') (t' := t') (d' := d') u hok hg hch
end

abbrev XK := Value → Option Addr → Hp → Prop
abbrev St := List (Option V)
abbrev VK := V → Hp → Prop
abbrev TE := St → Hp → VK → Prop
abbrev TT := St → Hp → (Bool → Hp → Prop) → Prop
abbrev TA := St → Hp → (List V → Hp → Prop) → Prop
structure Ends where
  nx : St → Hp → Prop
  rt : VK
  bk : St → Hp → Prop := fun _ _ => False
  ct : St → Hp → Prop := fun _ _ => False
abbrev TS := Ends → St → Hp → Prop

def EP (X : Cx) (pins : List (Addr × Obj)) (σ : St) (Q : VK) (u : Value) (s' : Shared) : Prop := ∃ v H', Inv X pins σ H' s' ∧ RelV v u ∧ Q v H'
def TP (X : Cx) (pins : List (Addr × Obj)) (σ : St) (Q : Bool → Hp → Prop) (b : Bool) (s' : Shared) : Prop := ∃ H', Inv X pins σ H' s' ∧ Q b H'
def AP (X : Cx) (pins : List (Addr × Obj)) (σ : St) (Q : List V → Hp → Prop) (us : List Value) (s' : Shared) : Prop := ∃ vs H', Inv X pins σ H' s' ∧ Vals vs us ∧ Q vs H'
def SP (X : Cx) (pins : List (Addr × Obj)) (D : Ends) (f : Flow) (s' : Shared) : Prop :=
  match f with
  | .next => ∃ σ' H', Inv X pins σ' H' s' ∧ D.nx σ' H'
  | .brk => ∃ σ' H', Inv X pins σ' H' s' ∧ D.bk σ' H'
  | .cont => ∃ σ' H', Inv X pins σ' H' s' ∧ D.ct σ' H'
  | .ret u => ∃ v σ' H', Inv X pins σ' H' s' ∧ RelV v u ∧ D.rt v H'

def PE (X : Cx) (e : Expr) (t : TE) : Prop :=
  ∀ (pins : List (Addr × Obj)) (s : Shared) (σ : St) (H : Hp) (Q : VK), Inv X pins σ H s → t σ H Q → wpAny (model X.prog X.w) X.A (eval e X.env) (EP X pins σ Q) X.xe s
def PT (X : Cx) (e : Expr) (t : TT) : Prop :=
  ∀ (pins : List (Addr × Obj)) (s : Shared) (σ : St) (H : Hp) (Q : Bool → Hp → Prop), Inv X pins σ H s → t σ H Q → wpAny (model X.prog X.w) X.A (isTrue e X.env (eval e X.env)) (TP X pins σ Q) X.xe s
def PW (X : Cx) (e : Expr) (t : TT) : Prop :=
  ∀ (whole : Sem Value) (pins : List (Addr × Obj)) (s : Shared) (σ : St) (H : Hp) (Q : Bool → Hp → Prop), Inv X pins σ H s → t σ H Q → wpAny (model X.prog X.w) X.A (isTrue e X.env whole) (TP X pins σ Q) X.xe s
theorem PW.pt {X : Cx} {e : Expr} {t : TT} (h : PW X e t) : PT X e t := h _
def PA (X : Cx) (es : List Expr) (t : TA) : Prop :=
  ∀ (pos : Pos) (pins : List (Addr × Obj)) (s : Shared) (σ : St) (H : Hp) (Q : List V → Hp → Prop), Inv X pins σ H s → t σ H Q → wpAny (model X.prog X.w) X.A (spliced (backTo pos (starEach es X.env))) (AP X pins σ Q) X.xe s
def PS (X : Cx) (st : Stmt) (t : TS) : Prop :=
  ∀ (pins : List (Addr × Obj)) (s : Shared) (σ : St) (H : Hp) (D : Ends), Inv X pins σ H s → t D σ H → wpAny (model X.prog X.w) X.A (exec st X.env) (SP X pins D) X.xe s
def PSs (X : Cx) (st : List Stmt) (t : TS) : Prop :=
  ∀ (pins : List (Addr × Obj)) (s : Shared) (σ : St) (H : Hp) (D : Ends), Inv X pins σ H s → t D σ H → wpAny (model X.prog X.w) X.A (execs st X.env) (SP X pins D) X.xe s
theorem thn {α : Type} {t : Sem α} {Q Q' : α → Shared → Prop} {M : Model} {A : Around} {E : Value → Shared → Prop} {s : Shared} (h : wpAny M A t Q E s) (hQ : ∀ a s, Q a s → Q' a s) : wpAny M A t Q' E s := wpAny_mono h hQ fun _ _ x => x
end L2

namespace L2
open PySem PySem.Spec PyProof.Rows
section
variable {X : Cx}

def tVar (i : Nat) : TE := fun σ H Q => ∃ v, σ[i]? = some (some v) ∧ Q v H
def tC (v : V) : TE := fun _ H Q => Q v H
theorem pe_var {i : Nat} {x : Str} {pos : Pos} (hN : X.N[i]? = some x) (hv : Vis X.env.scope x) (hd : (x == ("__debug__" : Str)) = false := by decide) (hcd : (x == ("__classdict__" : Str)) = false := by decide) : PE X (.Name x pos) (tVar i) := by
  intro pins s σ H Q I h
  obtain ⟨v, e, h⟩ := h
  obtain ⟨m, hn, hl⟩ := I.loc
  obtain ⟨u, r, l⟩ := hl i x v hN e hv
  have fin : EP X pins σ Q u s := ⟨v, H, I, r, h⟩
  rcases l with ⟨hk, hm⟩ | ⟨hk, c, hc, hcell⟩
  · exact wpAny_Name (wpAny_loadName_local I.ok.kind hk hn hm fin) hd
  · rcases hk with hk | hk
    · exact wpAny_Name (wpAny_loadName_cell I.ok.kind hk hc hcell fin) hd
    · exact wpAny_Name (wpAny_loadName_free I.ok.kind hk hc hcell fin hcd) hd
theorem pe_int {i j pos} : PE X (.Constant (.int i) j pos) (tC (.int i)) := fun _ _ _ H _ I h => wpAny_Constant_int ⟨.int i, H, I.tok _, ⟨_, rfl⟩, h⟩
theorem pe_bl {b j pos} : PE X (.Constant (.bool b) j pos) (tC (.bl b)) := fun _ _ _ H _ I h => Constant_bool ⟨.bl b, H, I, rfl, h⟩
theorem pe_non {j pos} : PE X (.Constant .none j pos) (tC .non) := fun _ _ _ H _ I h => Constant_none ⟨.non, H, I, rfl, h⟩
def Gl (X : Cx) (x : Str) : Prop := X.env.kindOf x = some .globalImplicit
theorem ld_glob {E : Value → Shared → Prop} {pins : List (Addr × Obj)} {s : Shared} {σ : St} {H : Hp} {x : Str} {u : Value} {pos : Pos} {Q : Value → Shared → Prop} (I : Inv X pins σ H s) (hg : Gl X x) (hm : X.mg x = some u) (h : Q u s)
    (hd : (x == ("__debug__" : Str)) = false := by decide) : wpAny (model X.prog X.w) X.A (eval (.Name x pos) X.env) Q E s :=
  Calls.Name_function_global I.ok.kind hg (Calls.loadGlobal_global (by rw [I.ok.glob]; exact I.mod.glob.keeps I.bk) hm h) hd
theorem ld_blt {E : Value → Shared → Prop} {pins : List (Addr × Obj)} {s : Shared} {σ : St} {H : Hp} {x : Str} {u : Value} {pos : Pos} {Q : Value → Shared → Prop} (I : Inv X pins σ H s) (hg : Gl X x) (hm : X.mg x = none) (hv : bootBuiltins x = some u) (h : Q u s)
    (hn : x ≠ "__name__" := by decide) (hd : (x == ("__debug__" : Str)) = false := by decide) : wpAny (model X.prog X.w) X.A (eval (.Name x pos) X.env) Q E s := by
  obtain ⟨mb, h1, h2⟩ := I.mod.blt
  exact Calls.Name_function_global I.ok.kind hg (Calls.loadGlobal_builtin (by rw [I.ok.glob]; exact I.mod.glob.keeps I.bk) hm (by rw [I.ok.blt]; exact h1.keeps I.bk) ((h2 x hn).trans hv) h) hd
theorem pe_glob {x : Str} {v : V} {u : Value} {pos : Pos} (hg : Gl X x) (hm : X.mg x = some u) (r : RelV v u) (hd : (x == ("__debug__" : Str)) = false := by decide) : PE X (.Name x pos) (tC v) :=
  fun _ _ _ H _ I h => ld_glob I hg hm ⟨v, H, I, r, h⟩ hd
theorem pe_bltn {x : Str} {v : V} {u : Value} {pos : Pos} (hg : Gl X x) (hm : X.mg x = none) (hv : bootBuiltins x = some u) (r : RelV v u) (hn : x ≠ "__name__" := by decide) (hd : (x == ("__debug__" : Str)) = false := by decide) : PE X (.Name x pos) (tC v) :=
  fun _ _ _ H _ I h => ld_blt I hg hm hv ⟨v, H, I, r, h⟩ hn hd

def t2I (ta tb : TE) (k : Int → Int → Hp → Prop) : St → Hp → Prop := fun σ H => ta σ H fun x H1 => tb σ H1 fun y H2 => ∃ i j, x = .int i ∧ y = .int j ∧ k i j H2
def tAdd (ta tb : TE) : TE := fun σ H Q => t2I ta tb (fun i j H2 => Q (.int (i + j)) H2) σ H
def tSub (ta tb : TE) : TE := fun σ H Q => t2I ta tb (fun i j H2 => Q (.int (i - j)) H2) σ H
def tMul (ta tb : TE) : TE := fun σ H Q => t2I ta tb (fun i j H2 => (-(2 ^ 64) < i ∧ i < 2 ^ 64) ∧ Q (.int (i * j)) H2) σ H
variable {a b : Expr} {ta tb : TE} {pos : Pos}
def PC (X : Cx) (op : CmpOp) (a b : Expr) (t : TE) : Prop :=
  ∀ (pins : List (Addr × Obj)) (s : Shared) (σ : St) (H : Hp) (Q : VK), Inv X pins σ H s → t σ H Q →
    wpAny (model X.prog X.w) X.A (eval a X.env) (fun v s₁ => wpAny (model X.prog X.w) X.A (eval b X.env) (fun u s₂ => wpAny (model X.prog X.w) X.A (compareOp op v u) (EP X pins σ Q) X.xe s₂) X.xe s₁) X.xe s
def tCmp (p : Int → Int → Bool) (ta tb : TE) : TE := fun σ H Q => t2I ta tb (fun i j H2 => Q (.bl (p i j)) H2) σ H
abbrev tLt : TE → TE → TE := tCmp fun i j => decide (i < j)
abbrev tLe : TE → TE → TE := tCmp fun i j => decide (i ≤ j)
abbrev tGt : TE → TE → TE := tCmp fun i j => decide (j < i)
abbrev tGe : TE → TE → TE := tCmp fun i j => decide (j ≤ i)
abbrev tEqI : TE → TE → TE := tCmp fun i j => decide (i = j)
abbrev tNeI : TE → TE → TE := tCmp fun i j => !decide (i = j)
def tIsN (ta : TE) : TE := fun σ H Q => ta σ H fun x H1 => Q (.bl (decide (x = .non))) H1
def tNotN (ta : TE) : TE := fun σ H Q => ta σ H fun x H1 => Q (.bl (!decide (x = .non))) H1
def tB (t : TE) : TT := fun σ H Q => t σ H fun x H1 => ∃ c, x = .bl c ∧ Q c H1
theorem pt_val {e : Expr} {t : TE} (h : PE X e t) (he : ∀ whole, isTrue e X.env whole = (do let v ← whole; standAt e.pos; holding [v] (truthy v)) := by intro _; rfl) : PT X e (tB t) := by
  intro pins s σ H Q I hw
  refine isTrue_plain (thn (h pins s σ H _ I hw) fun v s1 ⟨x, H1, I1, r1, q1⟩ => ?_) (he _)
  obtain ⟨d, rfl, q⟩ := q1
  cases r1
  exact wpAny_truthy_bool ⟨H1, I1, q⟩

variable {tA tB' : TT} {rest : List Expr}
def tAnd (t u : TT) : TT := fun σ H Q => t σ H fun c H1 => if c = true then u σ H1 Q else Q false H1
def tOr (t u : TT) : TT := fun σ H Q => t σ H fun c H1 => if c = true then Q true H1 else u σ H1 Q
def tNot (t : TT) : TT := fun σ H Q => t σ H fun c H1 => Q (!c) H1
theorem pw_and1 (ha : PT X a tA) : PW X (.BoolOp .And [a] pos) tA := by
  intro wh pins s σ H Q I h
  refine isTrue_and (thn (ha pins s σ H Q I h) fun c s1 e => ?_)
  cases c with
  | true => exact isTrue_and_nil e
  | false => exact e
theorem pw_or1 (ha : PT X a tA) : PW X (.BoolOp .Or [a] pos) tA := by
  intro wh pins s σ H Q I h
  refine isTrue_or (thn (ha pins s σ H Q I h) fun c s1 e => ?_)
  cases c with
  | false => exact isTrue_or_nil e
  | true => exact e
theorem pw_and (ha : PT X a tA) (hb : PW X (.BoolOp .And (b :: rest) pos) tB') : PW X (.BoolOp .And (a :: b :: rest) pos) (tAnd tA tB') := by
  intro wh pins s σ H Q I h
  refine isTrue_and (thn (ha pins s σ H _ I h) fun c s1 ⟨H1, I1, q1⟩ => ?_)
  cases c with
  | true => exact hb wh pins s1 σ H1 Q I1 q1
  | false => exact ⟨H1, I1, q1⟩
theorem pw_or (ha : PT X a tA) (hb : PW X (.BoolOp .Or (b :: rest) pos) tB') : PW X (.BoolOp .Or (a :: b :: rest) pos) (tOr tA tB') := by
  intro wh pins s σ H Q I h
  refine isTrue_or (thn (ha pins s σ H _ I h) fun c s1 ⟨H1, I1, q1⟩ => ?_)
  cases c with
  | true => exact ⟨H1, I1, q1⟩
  | false => exact hb wh pins s1 σ H1 Q I1 q1
theorem pt_not (ha : PT X a tA) : PT X (.UnaryOp .Not a pos) (tNot tA) := by
  intro pins s σ H Q I h
  exact isTrue_not (ha pins s σ H (fun c H1 => Q (!c) H1) I h)
def tAndV (ta tb : TE) : TE := fun σ H Q => ta σ H fun x H1 => ∃ c, x = .bl c ∧ if c = true then tb σ H1 Q else Q (.bl false) H1
def tOrV (ta tb : TE) : TE := fun σ H Q => ta σ H fun x H1 => ∃ c, x = .bl c ∧ if c = true then Q (.bl true) H1 else tb σ H1 Q
def tNotV (ta : TE) : TE := fun σ H Q => ta σ H fun x H1 => ∃ c, x = .bl c ∧ Q (.bl (!c)) H1
def tIf (t : TT) (ta tb : TE) : TE := fun σ H Q => t σ H fun c H1 => if c = true then ta σ H1 Q else tb σ H1 Q
end
end L2

namespace L2
open PySem PySem.Spec PyProof.Rows

def SqL (K : PySem.W.Frag) (H : Hp) (a : Addr) (xs : List V) : Prop :=
  Rd H a (.lst xs) ∨
    ∃ (o : Obj) (its : Array Value) (n : Nat), K.lookup a = some o ∧ o.cls = .type "list" ∧ o.dict = none ∧ o.data = .seq its n ∧ its.size ≤ sizeLine ∧ Vals xs its.toList
def SqT (K : PySem.W.Frag) (H : Hp) (a : Addr) (xs : List V) : Prop :=
  Rd H a (.tup xs) ∨
    ∃ (o : Obj) (its : Array Value) (n : Nat), K.lookup a = some o ∧ o.cls = .type "tuple" ∧ o.data = .seq its n ∧ its.size ≤ sizeLine ∧ Vals xs its.toList
def absV : Value → Option V
  | .none => some .non
  | .bool b => some (.bl b)
  | .int i _ => some (.int i)
  | .str x _ => some (.str x)
  | .bytes b _ => some (.byt b)
  | .float b _ => some (.flt b)
  | .ref a => some (.ref a)
  | .type n => some (.ty n)
  | _ => none
theorem RelV.abs {x : V} {u : Value} (r : RelV x u) : absV u = some x := by
  cases x with
  | non => cases r; rfl
  | bl _ => cases r; rfl
  | int _ => obtain ⟨t, rfl⟩ := r; rfl
  | str _ => obtain ⟨t, rfl⟩ := r; rfl
  | byt _ => obtain ⟨t, rfl⟩ := r; rfl
  | flt _ => obtain ⟨t, rfl⟩ := r; rfl
  | ref _ => cases r; rfl
  | ty _ => cases r; rfl
theorem RelV.inj {x y : V} {u : Value} (r : RelV x u) (q : RelV y u) : x = y := Option.some.inj (r.abs.symm.trans q.abs)
theorem Vals.inj : ∀ {xs ys : List V} {us : List Value}, Vals xs us → Vals ys us → xs = ys
  | _, _, _, .nil, .nil => rfl
  | _, _, _, .cons r t, .cons r' t' => by rw [r.inj r', Vals.inj t t']
section
variable {X : Cx} {pins : List (Addr × Obj)} {σ : St} {H : Hp} {s : Shared} {a : Addr} {xs ys : List V}
theorem Inv.list (I : Inv X pins σ H s) (h : SqL X.K H a xs) : ∃ its : List Value, Vals xs its ∧ PlainL s.heap a its.toArray ∧ xs.length ≤ sizeLine := by
  rcases h with h | ⟨o, its, n, hk, hc, hd, hs, hz, r⟩
  · obtain ⟨z, its, n, r, e⟩ := h.ok I.hok
    exact ⟨its, r, ⟨_, n, e, rfl, rfl, rfl⟩, z⟩
  · refine ⟨its.toList, r, ⟨o, n, I.kIn a o hk, hc, hd, by simpa using hs⟩, ?_⟩
    have e := r.length
    simp only [Array.length_toList] at e
    omega
theorem Inv.tuple (I : Inv X pins σ H s) (h : SqT X.K H a xs) : ∃ its : List Value, Vals xs its ∧ IsTup s.heap a its.toArray ∧ xs.length ≤ sizeLine := by
  rcases h with h | ⟨o, its, n, hk, hc, hs, hz, r⟩
  · obtain ⟨z, its, r, p⟩ := h.ok I.hok
    exact ⟨its, r, p, z⟩
  · refine ⟨its.toList, r, ⟨o, I.kIn a o hk, hc, n, by simpa using hs⟩, ?_⟩
    have e := r.length
    simp only [Array.length_toList] at e
    omega
theorem Inv.list_inj (I : Inv X pins σ H s) (h : SqL X.K H a xs) (h' : SqL X.K H a ys) : xs = ys := by
  obtain ⟨its, r, ⟨o, n, e, _, _, d⟩, _⟩ := I.list h
  obtain ⟨its', r', ⟨o', n', e', _, _, d'⟩, _⟩ := I.list h'
  rw [e] at e'; cases e'
  rw [d] at d'
  injection d' with d1 _
  have : its = its' := by simpa using congrArg Array.toList d1
  subst this
  exact r.inj r'
theorem Inv.tuple_inj (I : Inv X pins σ H s) (h : SqT X.K H a xs) (h' : SqT X.K H a ys) : xs = ys := by
  obtain ⟨its, r, ⟨o, e, _, n, d⟩, _⟩ := I.tuple h
  obtain ⟨its', r', ⟨o', e', _, n', d'⟩, _⟩ := I.tuple h'
  rw [e] at e'; cases e'
  rw [d] at d'
  injection d' with d1 _
  have : its = its' := by simpa using congrArg Array.toList d1
  subst this
  exact r.inj r'
end

abbrev Cx.wish (X : Cx) (E : Value → Shared → Prop) : Cx := { X with xe := E }
abbrev Cx.nox (X : Cx) : Cx := X.wish fun _ _ => False
section
variable {X : Cx} {pins : List (Addr × Obj)} {σ : St} {H : Hp} {s : Shared} {E : Value → Shared → Prop}
end

section
variable {X : Cx} {st : Stmt} {rest : List Stmt} {t u : TS} {e : Expr} {te : TE} {pos : Pos}
def tNext : TS := fun D σ H => D.nx σ H
def tSeq (t u : TS) : TS := fun D σ H => t { D with nx := u D } σ H
theorem pss_nil : PSs X [] tNext := fun _ _ σ H _ I h => wpAny_execs_nil ⟨σ, H, I, h⟩
theorem pss_cons (h1 : PS X st t) (h2 : PSs X rest u) : PSs X (st :: rest) (tSeq t u) := by
  intro pins s σ H D I h
  refine wpAny_execs_cons (thn (h1 pins s σ H { D with nx := u D } I h) fun f s1 q => ?_)
  cases f with
  | next =>
    obtain ⟨σ', H', I', q⟩ := q
    exact h2 pins s1 σ' H' D I' q
  | ret v => exact q
  | brk => exact q
  | cont => exact q
theorem pss_one (h1 : PS X st t) : PSs X [st] t := by
  intro pins s σ H D I h
  refine wpAny_execs_cons (thn (h1 pins s σ H D I h) fun f s1 q => ?_)
  cases f with
  | next => exact wpAny_execs_nil q
  | ret v => exact q
  | brk => exact q
  | cont => exact q
def tBreak : TS := fun D σ H => D.bk σ H
def tCont : TS := fun D σ H => D.ct σ H
theorem Inv.quiet {pins : List (Addr × Obj)} {σ : St} {H : Hp} {s : Shared} (I : Inv X pins σ H s) : interactive X.env = false := by simp [interactive, I.ok.kind]
def tDrop (te : TE) : TS := fun D σ H => te σ H fun _ H1 => D.nx σ H1
theorem ps_expr (he : PE X e te) (hs : swapsWith e none pos.line X.env = pure false := by rfl) : PS X (.Expr e pos) (tDrop te) := by
  intro pins s σ H D I h
  exact wpAny_Expr_any (thn (he pins s σ H _ I h) fun v s1 ⟨x, H1, I1, r1, q1⟩ => ⟨σ, H1, I1, q1⟩) I.quiet hs
def tRet (te : TE) : TS := fun D σ H => te σ H D.rt
theorem ps_ret (he : PE X e te) : PS X (.Return (some e) pos) (tRet te) := by
  intro pins s σ H D I h
  exact wpAny_Return_some (thn (he pins s σ H _ I h) fun v s1 ⟨x, H1, I1, r1, q1⟩ => ⟨x, σ, H1, I1, r1, q1⟩)
def tRetN : TS := fun D _ H => D.rt .non H
def tIfS (c : TT) (t u : TS) : TS := fun D σ H => c σ H fun b H1 => if b = true then t D σ H1 else u D σ H1
theorem ps_if {c : Expr} {a b : List Stmt} {tc : TT} (hc : PT X c tc) (ha : PSs X a t) (hb : PSs X b u) : PS X (.If c a b pos) (tIfS tc t u) := by
  intro pins s σ H D I h
  refine wpAny_If (thn (hc pins s σ H _ I h) fun d s1 ⟨H1, I1, q1⟩ => ?_)
  cases d with
  | true => exact ha pins s1 σ H1 D I1 q1
  | false => exact hb pins s1 σ H1 D I1 q1
def tNever : TS := fun _ _ _ => False
end

abbrev TG := V → St → Hp → (St → Hp → Prop) → Prop
abbrev TGs := List V → St → Hp → (St → Hp → Prop) → Prop
def PG (X : Cx) (target : Expr) (t : TG) : Prop :=
  ∀ (pins : List (Addr × Obj)) (s : Shared) (σ : St) (H : Hp) (v : V) (u : Value) (Q : St → Hp → Prop), Inv X pins σ H s → RelV v u → t v σ H Q →
    wpAny (model X.prog X.w) X.A (assign target X.env u) (fun _ s' => ∃ σ' H', Inv X pins σ' H' s' ∧ Q σ' H') X.xe s
def PGs (X : Cx) (ts : List Expr) (t : TGs) : Prop :=
  ∀ (pins : List (Addr × Obj)) (s : Shared) (σ : St) (H : Hp) (vs : List V) (us : List Value) (Q : St → Hp → Prop), Inv X pins σ H s → Vals vs us → t vs σ H Q →
    wpAny (model X.prog X.w) X.A (assignInOrder ((assignEach ts X.env).map (·.2)) us) (fun _ s' => ∃ σ' H', Inv X pins σ' H' s' ∧ Q σ' H') X.xe s
abbrev TSet := V → V → V → Hp → (Hp → Prop) → Prop
def PSet (X : Cx) (t : TSet) : Prop :=
  ∀ (pins : List (Addr × Obj)) (s : Shared) (σ : St) (H : Hp) (o i v : V) (ov iv u : Value) (Q : Hp → Prop), Inv X pins σ H s → RelV o ov → RelV i iv → RelV v u → t o i v H Q →
    wpAny (model X.prog X.w) X.A (setItem ov iv u) (fun _ s' => ∃ H', Inv X pins σ H' s' ∧ Q H') X.xe s
abbrev TIp := V → V → Hp → VK → Prop
def PIp (X : Cx) (op : Operator) (t : TIp) : Prop :=
  ∀ (pins : List (Addr × Obj)) (s : Shared) (σ : St) (H : Hp) (x y : V) (v u : Value) (Q : VK), Inv X pins σ H s → RelV x v → RelV y u → t x y H Q →
    wpAny (model X.prog X.w) X.A (inplaceOp op v u) (EP X pins σ Q) X.xe s
section
variable {X : Cx} {pos : Pos}
def gName (i : Nat) : TG := fun v σ H Q => Q (σ.set i (some v)) H
theorem pg_name {i : Nat} {x : Str} (hN : X.N.Nodup) (hi : X.N[i]? = some x) (hx : Loc X.env.scope x) (hf : X.fn x = true ∨ X.env.scope.names.lookup x = some .local := by first | exact .inl rfl | exact .inr rfl | assumption) : PG X (.Name x pos) (gName i) := by
  intro pins s σ H v u Q I r h
  exact wpAny_assign_Name (store_ok I hN hi hx r (fun s' I' => ⟨_, H, I', h⟩) hf)
def gNil : TGs := fun vs σ H Q => vs = [] ∧ Q σ H
def gCons (t : TG) (u : TGs) : TGs := fun vs σ H Q => ∃ v r, vs = v :: r ∧ t v σ H fun σ' H' => u r σ' H' Q
theorem pgs_nil : PGs X [] gNil := by
  intro pins s σ H vs us Q I r h
  obtain ⟨e, h⟩ := h
  subst e
  cases r
  exact assignInOrder_nil ⟨σ, H, I, h⟩
theorem pgs_cons {e : Expr} {es : List Expr} {t : TG} {u : TGs} (h1 : PG X e t) (h2 : PGs X es u)
    (hs : (assignEach (e :: es) X.env).map (·.2) = assign e X.env :: (assignEach es X.env).map (·.2) := by rfl) : PGs X (e :: es) (gCons t u) := by
  intro pins s σ H vs us Q I r h
  obtain ⟨v, vr, e1, h⟩ := h
  subst e1
  cases r with
  | cons r rr =>
    rw [hs]
    refine assignInOrder_cons (thn (h1 pins s σ H _ _ _ I r h) fun _ s1 ⟨σ1, H1, I1, q1⟩ => ?_)
    exact h2 pins s1 σ1 H1 _ _ Q I1 rr q1
def gTup (K : PySem.W.Frag) (n : Nat) (t : TGs) : TG := fun v σ H Q => ∃ a xs, v = .ref a ∧ SqT K H a xs ∧ xs.length = n ∧ t xs σ H Q
theorem pg_tup {es : List Expr} {k : Nat} {t : TGs} {n : Nat} (hc : X.calm = true) (h : PGs X es t)
    (hn : (assignEach es X.env).length = n := by rfl) (hst : (assignEach es X.env).findIdx? (·.1) = none := by rfl) : PG X (.Tuple es k pos) (gTup X.K n t) := by
  intro pins s σ H v u Q I r hw
  obtain ⟨a, xs, e1, hq, hl, hw⟩ := hw
  subst e1
  cases r
  obtain ⟨its, rv, ht, hz⟩ := I.tuple hq
  refine assign_Tuple_tuple (I.ok.hd hc) ht (by simp [hn, ← hl, rv.length]) hst fun h' hx => ?_
  have I1 : Inv X pins σ H { s with heap := h' } := I.kept (t' := s.toks) fun b o e => hx b o (Nat.ne_of_lt (Heap.lt_size e)) e
  exact h pins _ σ H xs _ Q I1 (by simpa using rv) hw
def gSub (to ti : TE) (t : TSet) : TG := fun v σ H Q => to σ H fun o H1 => ti σ H1 fun i H2 => t o i v H2 fun H3 => Q σ H3
def tAsg (te : TE) (g : TG) : TS := fun D σ H => te σ H fun x H1 => g x σ H1 D.nx
theorem ps_asg {tg e : Expr} {te : TE} {g : TG} (he : PE X e te) (hg : PG X tg g) (hs : swapsWithSole [tg] e pos.line X.env = pure false := by rfl) (hw : swappedStores [tg] e X.env = pure none := by rfl)
    (h1 : (assignEach [tg] X.env).map (·.2) = [assign tg X.env] := by rfl) : PS X (.Assign [tg] e pos) (tAsg te g) := by
  intro pins s σ H D I h
  refine wpAny_Assign_stores (thn (he pins s σ H _ I h) fun v s1 ⟨x, H1, I1, r1, q1⟩ => ?_) hs hw
  rw [h1]
  exact thn (hg pins s1 σ H1 x v _ I1 r1 q1) fun _ s2 q => q
theorem ps_set {i : Nat} {x : Str} {e : Expr} {te : TE} {pos' : Pos} (hN : X.N.Nodup) (hi : X.N[i]? = some x) (hx : Loc X.env.scope x) (he : PE X e te) (hs : swapsWith e (some (.Name x pos')) pos.line X.env = pure false := by rfl) (hf : X.fn x = true ∨ X.env.scope.names.lookup x = some .local := by first | exact .inl rfl | exact .inr rfl | assumption) :
    PS X (.Assign [.Name x pos'] e pos) (tAsg te (gName i)) := by
  intro pins s σ H D I h
  refine wpAny_Assign_Name (thn (he pins s σ H _ I h) fun v s1 ⟨y, H1, I1, r1, q1⟩ => ?_) hs
  exact store_ok I1 hN hi hx r1 (fun s2 I2 => ⟨_, H1, I2, q1⟩) hf
def tPar (i j : Nat) (ta : TA) : TS := fun D σ H => ta σ H fun vs H1 => ∃ v w, vs = [v, w] ∧ D.nx ((σ.set i (some v)).set j (some w)) H1
theorem ps_par {i j : Nat} {x y : Str} {a b : Expr} {ta : TA} {px py pt : Pos} {kt k2 pt2} (hc : X.calm = true) (hN : X.N.Nodup) (hi : X.N[i]? = some x) (hj : X.N[j]? = some y) (hij : i ≠ j)
    (hx : X.env.scope.names.lookup x = some .local) (hy : X.env.scope.names.lookup y = some .local) (ha : PA X [a, b] ta)
    (hw : swappedStores [.Tuple [.Name x px, .Name y py] kt pt] (.Tuple [a, b] k2 pt2) X.env = pure (some [x, y]))
    (hs : swapsWithSole [.Tuple [.Name x px, .Name y py] kt pt] (.Tuple [a, b] k2 pt2) pos.line X.env = pure false := by rfl) :
    PS X (.Assign [.Tuple [.Name x px, .Name y py] kt pt] (.Tuple [a, b] k2 pt2) pos) (tPar i j ta) := by
  intro pins s σ H D I h
  rw [exec_Assign_arm]
  refine wpAny_bind (wpAny_standAt ?_)
  rw [hs]
  refine wpAny_bind (wpAny_pure ?_)
  rw [if_neg (by decide)]
  refine wpAny_bind (Tuple_ (thn (ha _ pins s σ H _ I h) fun us s1 ⟨vs, H1, I1, r1, q1⟩ => ?_))
  obtain ⟨v, w, e1, q1⟩ := q1
  subst e1
  obtain ⟨u1, u2, rfl, rv, rw'⟩ : ∃ u1 u2, us = [u1, u2] ∧ RelV v u1 ∧ RelV w u2 := by
    cases r1 with
    | cons p q =>
      cases q with
      | cons p' q' =>
        cases q'
        exact ⟨_, _, rfl, p, p'⟩
  refine wpAny_newObj_type ?_ (by show 2 ≤ sizeLine; decide)
  have I2 : Inv X pins σ H1 { s1 with heap := s1.heap.push { cls := .type "tuple", data := .seq [u1, u2].toArray } } := I1.kept (t' := s1.toks) fun b o e => Heap.get?_push_of_some _ e
  rw [hw]
  refine wpAny_bind (wpAny_pure ?_)
  show wpAny (model X.prog X.w) X.A (do rule "assign.swapped-stores"; let items ← unpackItems (.ref s1.heap.objs.size) 2 none; assignInOrder [fun v => bindName X.env y v, fun v => bindName X.env x v] items.reverse; pure Flow.next) _ _ _
  refine wpAny_bind (wpAny_rule (wpAny_bind (unpackItems_tuple (items := #[u1, u2]) (I.ok.hd hc) (IsTup.new s1.heap _) fun h' hx' => ?_)))
  have I3 := I2.kept (h' := h') (t' := s1.toks) fun b o e => hx' b o (Nat.ne_of_lt (Heap.lt_size e)) e
  show wpAny _ _ (assignInOrder [fun v => bindName X.env y v, fun v => bindName X.env x v] [u2, u1] >>= fun _ => pure Flow.next) _ _ _
  refine wpAny_bind (assignInOrder_cons (wpAny_bindName (store_ok I3 hN hj (.inl hy) rw' (fun s2 I4 => ?_) (.inr hy))))
  refine assignInOrder_cons (wpAny_bindName (store_ok I4 hN hi (.inl hx) rv (fun s3 I5 => assignInOrder_nil (wpAny_pure ?_)) (.inr hx)))
  rw [List.set_comm _ _ (Ne.symm hij)] at I5
  exact ⟨_, H1, I5, q1⟩
def tAug (i : Nat) (te : TE) (ti : TIp) : TS := fun D σ H => ∃ x, σ[i]? = some (some x) ∧ te σ H fun y H1 => ti x y H1 fun z H2 => D.nx (σ.set i (some z)) H2
def tAugS (to ti te : TE) (tget : V → V → Hp → VK → Prop) (tip : TIp) (tset : TSet) : TS := fun D σ H => to σ H fun o H1 => ti σ H1 fun i H2 => tget o i H2 fun x H3 => te σ H3 fun y H4 => tip x y H4 fun z H5 => tset o i z H5 fun H6 => D.nx σ H6
def PGet (X : Cx) (t : V → V → Hp → VK → Prop) : Prop :=
  ∀ (pins : List (Addr × Obj)) (s : Shared) (σ : St) (H : Hp) (o i : V) (ov iv : Value) (Q : VK), Inv X pins σ H s → RelV o ov → RelV i iv → t o i H Q →
    wpAny (model X.prog X.w) X.A (getItem ov iv) (EP X pins σ Q) X.xe s
def ipI (f : Int → Int → Int) : TIp := fun x y H Q => ∃ i j, x = .int i ∧ y = .int j ∧ Q (.int (f i j)) H
end

section
variable {X : Cx} {pos : Pos}
def tWhile (c : TT) (tb : TS) : TS := fun D σ H => ∃ W : Nat → St → Hp → Prop, (∃ m, W m σ H) ∧ ∀ m σ H, W m σ H →
  c σ H fun b H1 => if b = true then ∃ N : St → Hp → Prop, (∀ σ' H', N σ' H' → ∃ m', m' < m ∧ W m' σ' H') ∧ tb { D with nx := N, ct := N, bk := D.nx } σ H1 else D.nx σ H1
theorem ps_while {c : Expr} {body : List Stmt} {tc : TT} {tb : TS} (hp : PassesOwn (model X.prog X.w) X.A X.env X.xe) (hc : PT X c tc) (hb : PSs X body tb) : PS X (.While c body [] pos) (tWhile tc tb) := by
  intro pins s σ H D I h
  obtain ⟨W, ⟨m0, w0⟩, turn⟩ := h
  refine wpAny_While (codeAny_whileLoop (fun n s' => ∃ σ' H', Inv X pins σ' H' s' ∧ W n σ' H') ?_ m0 ⟨σ, H, I, w0⟩)
  rintro n s1 ⟨σ1, H1, I1, w1⟩
  refine wpAny_passesOwn hp (thn (hc pins s1 σ1 H1 _ I1 (turn n σ1 H1 w1)) fun b s2 ⟨H2, I2, q2⟩ => ?_)
  cases b with
  | true =>
    obtain ⟨N, hN, q2⟩ := q2
    rw [if_pos rfl]
    refine wpAny_passesOwn hp (thn (hb pins s2 σ1 H2 _ I2 q2) fun f s3 q3 => ?_)
    cases f with
    | next =>
      obtain ⟨σ3, H3, I3, n3⟩ := q3
      obtain ⟨m', hm, w3⟩ := hN σ3 H3 n3
      exact ⟨m', hm, σ3, H3, I3, w3⟩
    | cont =>
      obtain ⟨σ3, H3, I3, n3⟩ := q3
      obtain ⟨m', hm, w3⟩ := hN σ3 H3 n3
      exact ⟨m', hm, σ3, H3, I3, w3⟩
    | brk => exact q3
    | ret v => exact q3
  | false =>
    rw [if_neg Bool.false_ne_true]
    exact wpAny_execs_nil ⟨σ1, H2, I2, q2⟩
end

structure It where
  go : Nat → Hp → Prop
  yld : Nat → Hp → V → Hp → Prop
  stop : Nat → Hp → Prop
def FpOk (X : Cx) (pins : List (Addr × Obj)) (H : Hp) (b : Addr) : Prop :=
  H b = none ∧ b ≠ X.env.locals ∧ b ∉ X.fs ∧ (b ∈ X.ex ∨ X.s₀.heap.objs.size ≤ b) ∧ (∀ x c, X.env.cells.lookup x = some c → c ≠ b) ∧ ∀ p ∈ X.pn ++ pins, p.1 ≠ b
theorem Inv.fpOk {X : Cx} {pins : List (Addr × Obj)} {σ : St} {H H' : Hp} {s : Shared} {b : Addr} (I : Inv X pins σ H s) (hb : s.heap.objs.size ≤ b) (hn : H' b = none) : FpOk X pins H' b := by
  refine ⟨hn, Nat.ne_of_gt (Nat.lt_of_lt_of_le I.lt hb), I.nofs hb, .inr (Nat.le_trans I.sz hb), fun x c e z => ?_, fun p hp z => ?_⟩
  · obtain ⟨v, q⟩ := I.cell x c e
    exact absurd (Nat.lt_of_lt_of_le q.lt (by rw [z]; exact hb)) (Nat.lt_irrefl _)
  · exact absurd (Nat.lt_of_lt_of_le (Heap.lt_size (I.pin p hp).1) (by rw [z]; exact hb)) (Nat.lt_irrefl _)
structure Turn (P : Program) (w : World) (K : PySem.W.Frag) (tg : Expr) (J : It) (fp : List Addr) (it : Addr) (tn : Nat → Heap → Prop) : Prop where
  mem : it ∈ fp
  obj : ∀ i h, tn i h → ∀ b ∈ fp, ∃ o, h.get? b = some o ∧ ∀ v, o.data ≠ .cell v
  keep : ∀ i h h', tn i h → (∀ b ∈ fp, ∀ o, h.get? b = some o → h'.get? b = some o) → tn i h'
  item : ∀ (X : Cx), X.prog = P → X.w = w → X.K = K → X.calm = true → ∀ (i : Nat) (pins : List (Addr × Obj)) (s : Shared) (σ : St) (H : Hp) (E : Value → Shared → Prop), Inv X pins σ H s → (∀ b ∈ fp, FpOk X pins H b) → tn i s.heap → J.go i H →
    wpAny (model P w) X.A (pyNext (.ref it)) (fun r s1 => ∃ u, r = some u ∧
      wpAny (model P w) X.A (letOwnedTupleGo tg (.ref it) u) (fun _ s2 => ∃ x H', Inv X pins σ H' s2 ∧ RelV x u ∧ J.yld i H x H' ∧ tn (i + 1) s2.heap ∧ ∀ b ∈ fp, H' b = none) E s1) E s
  done : ∀ (X : Cx), X.prog = P → X.w = w → X.K = K → X.calm = true → ∀ (i : Nat) (pins : List (Addr × Obj)) (s : Shared) (σ : St) (H : Hp) (E : Value → Shared → Prop), Inv X pins σ H s → (∀ b ∈ fp, FpOk X pins H b) → tn i s.heap → J.stop i H →
    wpAny (model P w) X.A (pyNext (.ref it)) (fun r s1 => r = none ∧ Inv X pins σ H s1) E s
  self : ∀ (A : Around) (i : Nat) (s : Shared) (Q : Value → Shared → Prop) (E : Value → Shared → Prop), tn i s.heap → Q (.ref it) s → wpAny (model P w) A (pyIter (.ref it)) Q E s
abbrev TI := St → Hp → (It → Hp → Prop) → Prop
def PIE (X : Cx) (pins : List (Addr × Obj)) (σ : St) (tg : Expr) (R : It → Hp → Prop) (itv : Value) (s2 : Shared) : Prop :=
  ∃ (it : Addr) (fp : List Addr) (tn : Nat → Heap → Prop) (J : It) (H' : Hp), itv = .ref it ∧ Inv X pins σ H' s2 ∧ Turn X.prog X.w X.K tg J fp it tn ∧ tn 0 s2.heap ∧ (∀ b ∈ fp, FpOk X pins H' b) ∧ R J H'
def PI (X : Cx) (tg iter : Expr) (wi : TI) : Prop :=
  ∀ (pins : List (Addr × Obj)) (s : Shared) (σ : St) (H : Hp) (R : It → Hp → Prop), Inv X pins σ H s → wi σ H R →
    wpAny (model X.prog X.w) X.A (eval iter X.env) (fun v s1 => wpAny (model X.prog X.w) X.A (pyIter v) (PIE X pins σ tg R) X.xe s1) X.xe s

theorem go_of {M : Model} {A : Around} {E : Value → Shared → Prop} {s : Shared} {tg : Expr} {it : Addr} {u : Value} {o : Obj} {n : String} {vs : Array Value} {Q : Unit → Shared → Prop} (ho : s.heap.get? it = some o) (hc : o.cls = .type n) (hd : o.data = .fields vs)
    (hn : ["enumerate", "zip", "dict_itemiterator", "dict_reverseitemiterator", "odict_iterator", "itertools.zip_longest", "itertools.pairwise"].contains n = false) (hQ : Q () s) : wpAny M A (letOwnedTupleGo tg (.ref it) u) Q E s := by
  unfold letOwnedTupleGo
  cases tg <;> first
    | exact wpAny_pure hQ
    | (cases u <;> first
        | exact wpAny_pure hQ
        | (refine wpAny_bind (wpAny_load ho ?_)
           rw [hc, hd]
           show wpAny M A (if (["enumerate", "zip", "dict_itemiterator", "dict_reverseitemiterator", "odict_iterator", "itertools.zip_longest", "itertools.pairwise"].contains n && vs[0]? == some (rawInt _)) = true then _ else _) Q E s
           rw [if_neg (by intro h; rw [hn, Bool.false_and] at h; cases h)]
           exact wpAny_pure hQ))

def Itl (K : PySem.W.Frag) (a : Addr) : It :=
  ⟨fun i H => ∃ xs x, SqL K H a xs ∧ xs[i]? = some x, fun i H x H' => H' = H ∧ ∀ xs, SqL K H a xs → xs[i]? = some x, fun i H => ∃ xs, SqL K H a xs ∧ xs.length ≤ i⟩
def Itt (K : PySem.W.Frag) (a : Addr) : It :=
  ⟨fun i H => ∃ xs x, SqT K H a xs ∧ xs[i]? = some x, fun i H x H' => H' = H ∧ ∀ xs, SqT K H a xs → xs[i]? = some x, fun i H => ∃ xs, SqT K H a xs ∧ xs.length ≤ i⟩
def Itr (lo : Int) (n : Nat) : It := ⟨fun i _ => i < n, fun i H x H' => H' = H ∧ x = .int (lo + i), fun i _ => n ≤ i⟩
theorem turn_list {P : Program} {w : World} {K : PySem.W.Frag} {tg : Expr} (a it : Addr) : Turn P w K tg (Itl K a) [it] it (fun i h => h.IsListIter it a i) where
  mem := by simp
  obj := fun i h st b hb => by
    have e : b = it := by simpa using hb
    subst e
    obtain ⟨o, e, c, d⟩ := st
    exact ⟨o, e, fun v z => by rw [d] at z; cases z⟩
  keep := fun i h h' st k => st.at fun o e => k it (by simp) o e
  item := by
    intro X hP hw hK hc i pins s σ H E I hf st hg
    subst hP hw hK
    obtain ⟨xs, x, hq, hx⟩ := hg
    obtain ⟨its, rv, p, hz⟩ := I.list hq
    obtain ⟨u, hu, ru⟩ := rv.get hx
    obtain ⟨f0, f1, f2, f3, f4, f5⟩ := hf it (by simp)
    refine wpAny_pyNext_list_item st p.isList (x := u) (by simpa using hu) fun h' st' sb => ?_
    have I1 : Inv X pins σ H { s with heap := h' } := I.turned (t' := s.toks) (fun b o hb e => (sb.2 b hb).trans e) f0 f1 f3 f4 f5
    obtain ⟨o, e, c, d⟩ := id st'
    exact ⟨u, rfl, go_of (s := { s with heap := h' }) e c d (by decide) ⟨x, H, I1, ru, ⟨rfl, fun ys hy => by rw [I.list_inj hy hq]; exact hx⟩, st', fun b hb => (hf b hb).1⟩⟩
  done := by
    intro X hP hw hK hc i pins s σ H E I hf st hg
    subst hP hw hK
    obtain ⟨xs, hq, hx⟩ := hg
    obtain ⟨its, rv, p, hz⟩ := I.list hq
    obtain ⟨f0, f1, f2, f3, f4, f5⟩ := hf it (by simp)
    have hl := rv.length
    exact wpAny_pyNext_list_end (I.ok.hd hc) st p.isList (by simp; omega) fun h' eb => ⟨rfl, I.turned (t' := s.toks) (fun b o hb e => eb b o hb e) f0 f1 f3 f4 f5⟩
  self := fun _ _ _ _ _ st h => wpAny_pyIter_listiter st h
theorem turn_tuple {P : Program} {w : World} {K : PySem.W.Frag} {tg : Expr} (a it : Addr) : Turn P w K tg (Itt K a) [it] it (fun i h => h.IsTupleIter it a i) where
  mem := by simp
  obj := fun i h st b hb => by
    have e : b = it := by simpa using hb
    subst e
    obtain ⟨o, e, c, d⟩ := st
    exact ⟨o, e, fun v z => by rw [d] at z; cases z⟩
  keep := fun i h h' st k => st.at fun o e => k it (by simp) o e
  item := by
    intro X hP hw hK hc i pins s σ H E I hf st hg
    subst hP hw hK
    obtain ⟨xs, x, hq, hx⟩ := hg
    obtain ⟨its, rv, p, hz⟩ := I.tuple hq
    obtain ⟨u, hu, ru⟩ := rv.get hx
    obtain ⟨f0, f1, f2, f3, f4, f5⟩ := hf it (by simp)
    refine wpAny_pyNext_tuple_item st (show s.heap.IsTuple a its.toArray from p) (x := u) (by simpa using hu) fun h' st' sb => ?_
    have I1 : Inv X pins σ H { s with heap := h' } := I.turned (t' := s.toks) (fun b o hb e => (sb.2 b hb).trans e) f0 f1 f3 f4 f5
    obtain ⟨o, e, c, d⟩ := id st'
    exact ⟨u, rfl, go_of (s := { s with heap := h' }) e c d (by decide) ⟨x, H, I1, ru, ⟨rfl, fun ys hy => by rw [I.tuple_inj hy hq]; exact hx⟩, st', fun b hb => (hf b hb).1⟩⟩
  done := by
    intro X hP hw hK hc i pins s σ H E I hf st hg
    subst hP hw hK
    obtain ⟨xs, hq, hx⟩ := hg
    obtain ⟨its, rv, p, hz⟩ := I.tuple hq
    obtain ⟨f0, f1, f2, f3, f4, f5⟩ := hf it (by simp)
    have hl := rv.length
    exact wpAny_pyNext_tuple_end (I.ok.hd hc) st (show s.heap.IsTuple a its.toArray from p) (by simp; omega) fun h' eb => ⟨rfl, I.turned (t' := s.toks) (fun b o hb e => eb b o hb e) f0 f1 f3 f4 f5⟩
  self := fun _ _ _ _ _ st h => wpAny_pyIter_tupleiter st h
theorem turn_range {P : Program} {w : World} {K : PySem.W.Frag} {tg : Expr} (it : Addr) (lo : Int) (n : Nat) : Turn P w K tg (Itr lo n) [it] it (fun i h => IsRangeIter h it (lo + (i : Nat) * 1) ((n : Int) - (i : Nat)) 1) where
  mem := by simp
  obj := fun i h st b hb => by
    have e : b = it := by simpa using hb
    subst e
    exact ⟨_, st, fun v z => by
      have z' : Data.fields _ = Data.cell v := z
      cases z'⟩
  keep := fun i h h' st k => k it (by simp) _ st
  item := by
    intro X hP hw hK hc i pins s σ H E I hf st hg
    subst hP hw hK
    obtain ⟨f0, f1, f2, f3, f4, f5⟩ := hf it (by simp)
    have W := Walks.range (prog := X.prog) (w := X.w) (I.ok.hd hc) it lo 1 n
    refine W.item i s _ _ hg st fun v h' tk hv st' kk => ?_
    obtain ⟨t, rfl⟩ := hv
    have I1 : Inv X pins σ H { s with heap := h', toks := tk } := I.turned (fun b o hb e => kk b o (by simpa using hb) e) f0 f1 f3 f4 f5
    refine ⟨_, rfl, go_of (s := { s with heap := h', toks := tk }) (n := "range_iterator") st' rfl rfl (by decide) ⟨.int (lo + i), H, I1, ⟨t, ?_⟩, ⟨rfl, rfl⟩, st', fun b hb => (hf b hb).1⟩⟩
    rw [Int.mul_one]
  done := by
    intro X hP hw hK hc i pins s σ H E I hf st hg
    subst hP hw hK
    obtain ⟨f0, f1, f2, f3, f4, f5⟩ := hf it (by simp)
    exact wpAny_pyNext_range_end (I.ok.hd hc) st (by have : n ≤ i := hg; omega) fun h' eb => ⟨rfl, I.turned (t' := s.toks) (fun b o hb e => eb b o hb e) f0 f1 f3 f4 f5⟩
  self := fun _ _ _ _ _ st h => wpAny_pyIter_rangeiter st h
end L2

namespace L2
open PySem PySem.Spec PyProof.Rows
section
variable {X : Cx} {tg : Expr}
def iList (K : PySem.W.Frag) (tl : TE) : TI := fun σ H R => tl σ H fun x H1 => ∃ a, x = .ref a ∧ (∃ xs, SqL K H1 a xs) ∧ R (Itl K a) H1
def iTup (K : PySem.W.Frag) (tl : TE) : TI := fun σ H R => tl σ H fun x H1 => ∃ a, x = .ref a ∧ (∃ xs, SqT K H1 a xs) ∧ R (Itt K a) H1
theorem range_it {pins : List (Addr × Obj)} {σ : St} {H : Hp} {s : Shared} {R : It → Hp → Prop} {E : Value → Shared → Prop} {lo hi : Int} {t u v : Tok} {tk : Nat} (I : Inv X pins σ H s) (h1 : -(2 ^ 62) ≤ lo) (h2 : lo < 2 ^ 62) (h3 : -(2 ^ 62) ≤ hi) (h4 : hi < 2 ^ 62)
    (q : R (Itr lo (hi - lo).toNat) H) : wpAny (model X.prog X.w) X.A (pyIter (.ref s.heap.objs.size)) (PIE X pins σ tg R) E { s with heap := s.heap.push { cls := .type "range", data := .fields #[.int lo t, .int hi u, .int 1 v] }, toks := tk } := by
  refine wpAny_pyIter_range (IsRange.new ..) (small_one h1 h2 h3 h4) ?_
  have I1 : Inv X pins σ H { s with heap := s.heap.push { cls := .type "range", data := .fields #[.int lo t, .int hi u, .int 1 v] }, toks := tk } := I.kept fun b o e => Heap.get?_push_of_some _ e
  refine ⟨(s.heap.push { cls := .type "range", data := .fields #[.int lo t, .int hi u, .int 1 v] }).objs.size, [(s.heap.push { cls := .type "range", data := .fields #[.int lo t, .int hi u, .int 1 v] }).objs.size], _, _, H, rfl,
    I1.kept (t' := tk) fun b o e => Heap.get?_push_of_some _ e, turn_range _ lo (hi - lo).toNat, ?_, fun b hb => ?_, q⟩
  · have e1 : lo + ((0 : Nat) : Int) * 1 = lo := by simp
    have e2 : (((hi - lo).toNat : Nat) : Int) - ((0 : Nat) : Int) = Builtin.Range.rangeSize lo hi 1 := by rw [rangeSize_one]; split <;> omega
    show IsRangeIter _ _ (lo + ((0 : Nat) : Int) * 1) ((((hi - lo).toNat : Nat) : Int) - ((0 : Nat) : Int)) 1
    rw [e1, e2]
    exact Heap.get?_push_size _ rfl
  · have e : b = (s.heap.push { cls := .type "range", data := .fields #[.int lo t, .int hi u, .int 1 v] }).objs.size := by simpa using hb
    subst e
    exact I1.fpOk (Nat.le_refl _) (I1.hok.fresh (Nat.le_refl _))
def iRng1 (ta : TA) : TI := fun σ H R => ta σ H fun vs H1 => ∃ j : Int, vs = [.int j] ∧ -(2 ^ 62) ≤ j ∧ j < 2 ^ 62 ∧ R (Itr 0 j.toNat) H1
def iRng2 (ta : TA) : TI := fun σ H R => ta σ H fun vs H1 => ∃ i j : Int, vs = [.int i, .int j] ∧ (-(2 ^ 62) ≤ i ∧ i < 2 ^ 62 ∧ -(2 ^ 62) ≤ j ∧ j < 2 ^ 62) ∧ R (Itr i (j - i).toNat) H1
theorem pi_range1 {a : Expr} {ta : TA} {p pos : Pos} (hg : Gl X "range") (hm : X.mg "range" = none) (ha : PA X [a] ta) (hs : starEach [a] X.env = [(false, eval a X.env)] := by rfl) : PI X tg (.Call (.Name "range" p) [a] [] pos) (iRng1 ta) := by
  intro pins s σ H R I h
  refine Call_ (ld_blt I hg hm boot_range (PyProof.Rows.callWith_type1 (thn (ha pos pins s σ H _ I h) fun us s1 ⟨vs, H1, I1, r1, q1⟩ => ?_) hs rfl))
  obtain ⟨j, e, q1, q2, q⟩ := q1
  subst e
  cases r1 with
  | cons r rr =>
    cases rr
    obtain ⟨t, rfl⟩ := r
    exact call_range_1 (range_it I1 (by omega) (by omega) q1 q2 (by simpa using q))
def tFor (wi : TI) (g : TG) (tb : TS) : TS := fun D σ H => wi σ H fun J H1 => ∃ W : Nat → Nat → St → Hp → Prop, (∃ m, W 0 m σ H1) ∧ ∀ i m σ H, W i m σ H →
  (J.stop i H ∧ D.nx σ H) ∨ (J.go i H ∧ ∃ N : St → Hp → Prop, (∀ σ' H', N σ' H' → ∃ m', m' < m ∧ W (i + 1) m' σ' H') ∧ ∀ x H', J.yld i H x H' → g x σ H' fun σ2 H2 => tb { D with nx := N, ct := N, bk := D.nx } σ2 H2)
def pinsAt (fp : List Addr) (h : Heap) : List (Addr × Obj) := fp.filterMap fun b => (h.get? b).map fun o => (b, o)
theorem mem_pinsAt {fp : List Addr} {h : Heap} {b : Addr} {o : Obj} (hb : b ∈ fp) (e : h.get? b = some o) : (b, o) ∈ pinsAt fp h := List.mem_filterMap.mpr ⟨b, hb, by rw [e]; rfl⟩
theorem of_pinsAt {fp : List Addr} {h : Heap} {p : Addr × Obj} (hp : p ∈ pinsAt fp h) : p.1 ∈ fp ∧ h.get? p.1 = some p.2 := by
  obtain ⟨b, hb, e⟩ := List.mem_filterMap.mp hp
  cases q : h.get? b with
  | none => rw [q] at e; cases e
  | some o =>
    rw [q] at e
    have e' : (b, o) = p := Option.some.inj e
    subst e'
    exact ⟨hb, q⟩
theorem Inv.pinned {pins : List (Addr × Obj)} {σ : St} {H : Hp} {s : Shared} {fp : List Addr} (I : Inv X pins σ H s) (hf : ∀ b ∈ fp, FpOk X pins H b) (ho : ∀ b ∈ fp, ∃ o, s.heap.get? b = some o ∧ ∀ v, o.data ≠ .cell v) : Inv X (pins ++ pinsAt fp s.heap) σ H s :=
  I.pins_of fun p hp => (List.mem_append.mp hp).elim (fun z => I.pin p (List.mem_append_right _ z)) fun z => by
    obtain ⟨hb, e⟩ := of_pinsAt z
    obtain ⟨f0, f1, f2, _⟩ := hf p.1 hb
    obtain ⟨o, e', d⟩ := ho p.1 hb
    rw [e] at e'; cases e'
    exact ⟨e, f0, f1, f2, d⟩
theorem Inv.unpinned {pins pl : List (Addr × Obj)} {σ : St} {H : Hp} {s : Shared} (I : Inv X (pins ++ pl) σ H s) : Inv X pins σ H s := I.pins_of fun p hp => I.pin p (List.mem_append_right _ (List.mem_append_left _ hp))
theorem ps_for {iter : Expr} {body : List Stmt} {wi : TI} {g : TG} {tb : TS} {pos : Pos} (hp : PassesOwn (model X.prog X.w) X.A X.env X.xe) (hc : X.calm = true) (hi : PI X tg iter wi) (hg : PG X tg g) (hb : PSs X body tb)
    (hs : ∀ x, foldedSetIterable iter X.env x = pure x := by intro _; rfl) : PS X (.For tg iter body [] pos) (tFor wi g tb) := by
  intro pins s σ H D I h
  refine wpAny_For (thn (hi pins s σ H _ I h) fun v s1 h1 => thn h1 fun itv s2 h2 => ?_) hs
  obtain ⟨it, fp, tn, J, H2, e, I2, T, st2, f2, W, ⟨m0, w0⟩, turn⟩ := h2
  subst e
  -- what stays true of the iterator's objects through the loop
  have stat : ∀ {H' : Hp}, (∀ b ∈ fp, H' b = none) → ∀ b ∈ fp, FpOk X pins H' b := fun hn b hb => ⟨hn b hb, (f2 b hb).2⟩
  refine codeAny_forLoop_any (fun n s' => ∃ i σ' H', Inv X pins σ' H' s' ∧ tn i s'.heap ∧ (∀ b ∈ fp, H' b = none) ∧ W i n σ' H') ?_ m0 ⟨0, σ, H2, I2, st2, fun b hb => (f2 b hb).1, w0⟩
  rintro n s3 ⟨i, σ3, H3, I3, st3, fr3, w3⟩
  rcases turn i n σ3 H3 w3 with ⟨stop, qn⟩ | ⟨go, N, hN, step⟩
  · refine wpAny_passesOwn hp (thn (T.done X rfl rfl rfl hc i pins s3 σ3 H3 X.xe I3 (stat fr3) st3 stop) fun r s4 ⟨hr, I4⟩ => ?_)
    subst hr
    exact wpAny_execs_nil ⟨σ3, H3, I4, qn⟩
  · refine wpAny_passesOwn hp (thn (T.item X rfl rfl rfl hc i pins s3 σ3 H3 X.xe I3 (stat fr3) st3 go) fun r s4 ⟨u, hr, h4⟩ => ?_)
    subst hr
    refine wpAny_passesOwn hp (thn h4 fun _ s5 ⟨x, H5, I5, r5, y5, st5, fr5⟩ => ?_)
    have I5' := I5.pinned (stat fr5) (T.obj _ _ st5)
    refine wpAny_passesOwn hp (thn (hg _ s5 σ3 H5 x u _ I5' r5 (step x H5 y5)) fun _ s6 ⟨σ6, H6, I6, q6⟩ => ?_)
    refine wpAny_passesOwn hp (thn (hb _ s6 σ6 H6 _ I6 q6) fun f s7 q7 => ?_)
    have again : ∀ {σ7 : St} {H7 : Hp}, Inv X (pins ++ pinsAt fp s5.heap) σ7 H7 s7 → N σ7 H7 → ∃ m, m < n ∧ ∃ i σ' H', Inv X pins σ' H' s7 ∧ tn i s7.heap ∧ (∀ b ∈ fp, H' b = none) ∧ W i m σ' H' := fun {σ7 H7} I7 n7 => by
      obtain ⟨m', hm, w7⟩ := hN σ7 H7 n7
      refine ⟨m', hm, i + 1, σ7, H7, I7.unpinned, T.keep _ _ _ st5 fun b hb o e => (I7.pin (b, o) (List.mem_append_right _ (List.mem_append_right _ (mem_pinsAt hb e)))).1, fun b hb => ?_, w7⟩
      obtain ⟨o, e, d⟩ := T.obj _ _ st5 b hb
      exact (I7.pin (b, o) (List.mem_append_right _ (List.mem_append_right _ (mem_pinsAt hb e)))).2.1
    cases f with
    | next => obtain ⟨σ7, H7, I7, n7⟩ := q7; exact again I7 n7
    | cont => obtain ⟨σ7, H7, I7, n7⟩ := q7; exact again I7 n7
    | brk => obtain ⟨σ7, H7, I7, q7⟩ := q7; exact ⟨σ7, H7, I7.unpinned, q7⟩
    | ret v => obtain ⟨x7, σ7, H7, I7, r7, q7⟩ := q7; exact ⟨x7, σ7, H7, I7.unpinned, r7, q7⟩
end

theorem for_list {K : PySem.W.Frag} {a : Addr} {xs : List V} {g : TG} {tb : TS} {D : Ends} {σ : St} {H : Hp} (Pv : Nat → St → Hp → Prop) (h0 : Pv 0 σ H) (hl : ∀ i σ H, i ≤ xs.length → Pv i σ H → SqL K H a xs)
    (hs : ∀ i x σ H, xs[i]? = some x → Pv i σ H → g x σ H fun σ2 H2 => tb { D with nx := Pv (i + 1), ct := Pv (i + 1), bk := D.nx } σ2 H2) (hd : ∀ σ H, Pv xs.length σ H → D.nx σ H) :
    ∃ W : Nat → Nat → St → Hp → Prop, (∃ m, W 0 m σ H) ∧ ∀ i m σ H, W i m σ H →
      ((Itl K a).stop i H ∧ D.nx σ H) ∨ ((Itl K a).go i H ∧ ∃ N : St → Hp → Prop, (∀ σ' H', N σ' H' → ∃ m', m' < m ∧ W (i + 1) m' σ' H') ∧ ∀ x H', (Itl K a).yld i H x H' → g x σ H' fun σ2 H2 => tb { D with nx := N, ct := N, bk := D.nx } σ2 H2) := by
  refine ⟨fun i m σ H => m = xs.length - i ∧ i ≤ xs.length ∧ Pv i σ H, ⟨xs.length, by simp, Nat.zero_le _, h0⟩, ?_⟩
  rintro i m σ H ⟨rfl, hi, p⟩
  have q := hl i σ H hi p
  by_cases hlt : i < xs.length
  · refine .inr ⟨⟨xs, xs[i], q, by simp [hlt]⟩, Pv (i + 1), fun σ' H' p' => ⟨xs.length - (i + 1), by omega, rfl, hlt, p'⟩, fun x H' y => ?_⟩
    obtain ⟨e, y⟩ := y
    subst e
    exact hs i x σ _ (y xs q) p
  · have e : i = xs.length := by omega
    subst e
    exact .inl ⟨⟨xs, q, Nat.le_refl _⟩, hd σ H p⟩
theorem for_tup {K : PySem.W.Frag} {a : Addr} {xs : List V} {g : TG} {tb : TS} {D : Ends} {σ : St} {H : Hp} (Pv : Nat → St → Hp → Prop) (h0 : Pv 0 σ H) (hl : ∀ i σ H, i ≤ xs.length → Pv i σ H → SqT K H a xs)
    (hs : ∀ i x σ H, xs[i]? = some x → Pv i σ H → g x σ H fun σ2 H2 => tb { D with nx := Pv (i + 1), ct := Pv (i + 1), bk := D.nx } σ2 H2) (hd : ∀ σ H, Pv xs.length σ H → D.nx σ H) :
    ∃ W : Nat → Nat → St → Hp → Prop, (∃ m, W 0 m σ H) ∧ ∀ i m σ H, W i m σ H →
      ((Itt K a).stop i H ∧ D.nx σ H) ∨ ((Itt K a).go i H ∧ ∃ N : St → Hp → Prop, (∀ σ' H', N σ' H' → ∃ m', m' < m ∧ W (i + 1) m' σ' H') ∧ ∀ x H', (Itt K a).yld i H x H' → g x σ H' fun σ2 H2 => tb { D with nx := N, ct := N, bk := D.nx } σ2 H2) := by
  refine ⟨fun i m σ H => m = xs.length - i ∧ i ≤ xs.length ∧ Pv i σ H, ⟨xs.length, by simp, Nat.zero_le _, h0⟩, ?_⟩
  rintro i m σ H ⟨rfl, hi, p⟩
  have q := hl i σ H hi p
  by_cases hlt : i < xs.length
  · refine .inr ⟨⟨xs, xs[i], q, by simp [hlt]⟩, Pv (i + 1), fun σ' H' p' => ⟨xs.length - (i + 1), by omega, rfl, hlt, p'⟩, fun x H' y => ?_⟩
    obtain ⟨e, y⟩ := y
    subst e
    exact hs i x σ _ (y xs q) p
  · have e : i = xs.length := by omega
    subst e
    exact .inl ⟨⟨xs, q, Nat.le_refl _⟩, hd σ H p⟩
theorem for_range {lo : Int} {n : Nat} {g : TG} {tb : TS} {D : Ends} {σ : St} {H : Hp} (Pv : Nat → St → Hp → Prop) (h0 : Pv 0 σ H)
    (hs : ∀ i σ H, i < n → Pv i σ H → g (.int (lo + i)) σ H fun σ2 H2 => tb { D with nx := Pv (i + 1), ct := Pv (i + 1), bk := D.nx } σ2 H2) (hd : ∀ σ H, Pv n σ H → D.nx σ H) :
    ∃ W : Nat → Nat → St → Hp → Prop, (∃ m, W 0 m σ H) ∧ ∀ i m σ H, W i m σ H →
      ((Itr lo n).stop i H ∧ D.nx σ H) ∨ ((Itr lo n).go i H ∧ ∃ N : St → Hp → Prop, (∀ σ' H', N σ' H' → ∃ m', m' < m ∧ W (i + 1) m' σ' H') ∧ ∀ x H', (Itr lo n).yld i H x H' → g x σ H' fun σ2 H2 => tb { D with nx := N, ct := N, bk := D.nx } σ2 H2) := by
  refine ⟨fun i m σ H => m = n - i ∧ i ≤ n ∧ Pv i σ H, ⟨n, by simp, Nat.zero_le _, h0⟩, ?_⟩
  rintro i m σ H ⟨rfl, hi, p⟩
  by_cases hlt : i < n
  · refine .inr ⟨hlt, Pv (i + 1), fun σ' H' p' => ⟨n - (i + 1), by omega, rfl, hlt, p'⟩, fun x H' y => ?_⟩
    obtain ⟨e, y⟩ := y
    subst e y
    exact hs i σ _ hlt p
  · have e : i = n := by omega
    subst e
    exact .inl ⟨Nat.le_refl _, hd σ H p⟩
end L2

namespace L2
open PySem PySem.Spec PyProof.Rows

abbrev R2 := V → V → Hp → VK → Prop
def OpR (X : Cx) (f : Value → Value → Sem Value) (r : R2) : Prop :=
  ∀ (pins : List (Addr × Obj)) (s : Shared) (σ : St) (H : Hp) (x y : V) (v u : Value) (Q : VK), Inv X pins σ H s → RelV x v → RelV y u → r x y H Q →
    wpAny (model X.prog X.w) X.A (f v u) (EP X pins σ Q) X.xe s
def UnR (X : Cx) (f : Value → Sem Value) (r : V → Hp → VK → Prop) : Prop :=
  ∀ (pins : List (Addr × Obj)) (s : Shared) (σ : St) (H : Hp) (x : V) (v : Value) (Q : VK), Inv X pins σ H s → RelV x v → r x H Q →
    wpAny (model X.prog X.w) X.A (f v) (EP X pins σ Q) X.xe s
def CallR (X : Cx) (f : Value) (r : List V → Hp → VK → Prop) : Prop :=
  ∀ (pins : List (Addr × Obj)) (s : Shared) (σ : St) (H : Hp) (xs : List V) (us : List Value) (Q : VK), Inv X pins σ H s → Vals xs us → r xs H Q →
    wpAny (model X.prog X.w) X.A (call f us) (EP X pins σ Q) X.xe s
def TruR (X : Cx) (r : V → Hp → (Bool → Hp → Prop) → Prop) : Prop :=
  ∀ (pins : List (Addr × Obj)) (s : Shared) (σ : St) (H : Hp) (x : V) (v : Value) (Q : Bool → Hp → Prop), Inv X pins σ H s → RelV x v → r x H Q →
    wpAny (model X.prog X.w) X.A (truthy v) (TP X pins σ Q) X.xe s

def tOp (r : R2) (ta tb : TE) : TE := fun σ H Q => ta σ H fun x H1 => tb σ H1 fun y H2 => r x y H2 Q
def tUn (r : V → Hp → VK → Prop) (ta : TE) : TE := fun σ H Q => ta σ H fun x H1 => r x H1 Q
def rI (C : Int → Int → Prop) (g : Int → Int → V) : R2 := fun x y H Q => ∃ i j, x = .int i ∧ y = .int j ∧ C i j ∧ Q (g i j) H
def rI0 (g : Int → Int → V) : R2 := fun x y H Q => ∃ i j, x = .int i ∧ y = .int j ∧ Q (g i j) H
def rU (g : Int → V) : V → Hp → VK → Prop := fun x H Q => ∃ i, x = .int i ∧ Q (g i) H

section
variable {X : Cx} {a b c : Expr} {ta tb tc : TE} {pos : Pos}

theorem binT (ha : PE X a ta) (hb : PE X b tb) {pins : List (Addr × Obj)} {s : Shared} {σ : St} {H : Hp} {R : V → V → Hp → Prop} (I : Inv X pins σ H s)
    (h : ta σ H fun x H1 => tb σ H1 fun y H2 => R x y H2) {Q : Value → Shared → Prop} {f : Value → Value → Sem Value}
    (hf : ∀ v u s2 x y H2, Inv X pins σ H2 s2 → RelV x v → RelV y u → R x y H2 → wpAny (model X.prog X.w) X.A (f v u) Q X.xe s2) :
    wpAny (model X.prog X.w) X.A (eval a X.env) (fun v s₁ => wpAny (model X.prog X.w) X.A (eval b X.env) (fun u s₂ => wpAny (model X.prog X.w) X.A (f v u) Q X.xe s₂) X.xe s₁) X.xe s := by
  refine thn (ha pins s σ H _ I h) fun v s1 ⟨x, H1, I1, r1, q1⟩ => ?_
  refine thn (hb pins s1 σ H1 _ I1 q1) fun u s2 ⟨y, H2, I2, r2, q2⟩ => ?_
  exact hf v u s2 x y H2 I2 r1 r2 q2

theorem pe_op {op : Operator} {r : R2} (ho : OpR X (binaryOp op) r) (ha : PE X a ta) (hb : PE X b tb) : PE X (.BinOp a op b pos) (tOp r ta tb) := by
  intro pins s σ H Q I h
  exact wpAny_BinOp (binT ha hb I h fun v u s2 x y H2 I2 rx ry q => ho pins s2 σ H2 x y v u Q I2 rx ry q)
theorem pe_un {op : UnaryOp} {r : V → Hp → VK → Prop} (ho : UnR X (unaryOp op) r) (ha : PE X a ta) : PE X (.UnaryOp op a pos) (tUn r ta) := by
  intro pins s σ H Q I h
  exact UnaryOp_ (thn (ha pins s σ H _ I h) fun v s1 ⟨x, H1, I1, r1, q1⟩ => ho pins s1 σ H1 x v Q I1 r1 q1)
theorem opI {f : Value → Value → Sem Value} {C : Int → Int → Prop} {g : Int → Int → Int}
    (rule : ∀ (i j : Int) (t u : Tok) (s : Shared) (Q : Value → Shared → Prop) (E : Value → Shared → Prop), C i j → Q (.int (g i j) s.toks) { s with toks := s.toks + 1 } → wpAny (model X.prog X.w) X.A (f (.int i t) (.int j u)) Q E s) :
    OpR X f (rI C fun i j => .int (g i j)) := by
  intro pins s σ H x y v u Q I rx ry h
  obtain ⟨i, j, rfl, rfl, hc, q⟩ := h
  obtain ⟨t, rfl⟩ := rx
  obtain ⟨t', rfl⟩ := ry
  exact rule i j t t' s _ _ hc ⟨.int (g i j), H, I.tok _, ⟨_, rfl⟩, q⟩
theorem opI0 {f : Value → Value → Sem Value} {g : Int → Int → Int}
    (rule : ∀ (i j : Int) (t u : Tok) (s : Shared) (Q : Value → Shared → Prop) (E : Value → Shared → Prop), Q (.int (g i j) s.toks) { s with toks := s.toks + 1 } → wpAny (model X.prog X.w) X.A (f (.int i t) (.int j u)) Q E s) :
    OpR X f (rI0 fun i j => .int (g i j)) := by
  intro pins s σ H x y v u Q I rx ry h
  obtain ⟨i, j, rfl, rfl, q⟩ := h
  obtain ⟨t, rfl⟩ := rx
  obtain ⟨t', rfl⟩ := ry
  exact rule i j t t' s _ _ ⟨.int (g i j), H, I.tok _, ⟨_, rfl⟩, q⟩
theorem opB0 {f : Value → Value → Sem Value} {g : Int → Int → Bool}
    (rule : ∀ (i j : Int) (t u : Tok) (s : Shared) (Q : Value → Shared → Prop) (E : Value → Shared → Prop), Q (.bool (g i j)) s → wpAny (model X.prog X.w) X.A (f (.int i t) (.int j u)) Q E s) :
    OpR X f (rI0 fun i j => .bl (g i j)) := by
  intro pins s σ H x y v u Q I rx ry h
  obtain ⟨i, j, rfl, rfl, q⟩ := h
  obtain ⟨t, rfl⟩ := rx
  obtain ⟨t', rfl⟩ := ry
  exact rule i j t t' s _ _ ⟨.bl (g i j), H, I, rfl, q⟩

def CDiv (i j : Int) : Prop := 0 < j ∧ j < 1073741824
def CDivN (i j : Int) : Prop := j ≠ 0 ∧ j.natAbs < 1073741824
def CPow (i j : Int) : Prop := 0 ≤ j ∧ j ≤ 1000000 ∧ i.natAbs < 2 ^ 64
def CMul (i j : Int) : Prop := (-(2 ^ 64) < i ∧ i < 2 ^ 64) ∨ (-(2 ^ 64) < j ∧ j < 2 ^ 64)
theorem op_add : OpR X (binaryOp .Add) (rI0 fun i j => .int (i + j)) := opI0 fun _ _ _ _ _ _ _ q => add_int q
theorem op_sub : OpR X (binaryOp .Sub) (rI0 fun i j => .int (i - j)) := opI0 fun _ _ _ _ _ _ _ q => sub_int q
theorem op_modN : OpR X (binaryOp .Mod) (rI (fun _ j => j ≠ 0) fun i j => .int (i.fmod j)) := opI fun _ _ _ _ _ _ _ hc q => mod_int' hc q
theorem op_pow : OpR X (binaryOp .Pow) (rI CPow fun i j => .int (i ^ j.toNat)) := opI fun _ _ _ _ _ _ _ hc q => pow_int_small hc.1 hc.2.1 hc.2.2 q
theorem unI {f : Value → Sem Value} {g : Int → Int}
    (rule : ∀ (i : Int) (t : Tok) (s : Shared) (Q : Value → Shared → Prop) (E : Value → Shared → Prop), Q (.int (g i) s.toks) { s with toks := s.toks + 1 } → wpAny (model X.prog X.w) X.A (f (.int i t)) Q E s) :
    UnR X f (rU fun i => .int (g i)) := by
  intro pins s σ H x v Q I rx h
  obtain ⟨i, rfl, q⟩ := h
  obtain ⟨t, rfl⟩ := rx
  exact rule i t s _ _ ⟨.int (g i), H, I.tok _, ⟨_, rfl⟩, q⟩
theorem un_neg : UnR X (unaryOp .USub) (rU fun i => .int (-i)) := unI fun _ _ _ _ _ q => neg_int q
end

def scal : V → V → Bool
  | .non, .non => true | .non, .int _ => true | .int _, .non => true | .non, .bl _ => true | .bl _, .non => true | .non, .str _ => true | .str _, .non => true
  | .int _, .int _ => true | .bl _, .bl _ => true | .str _, .str _ => true | .byt _, .byt _ => true
  | .int _, .str _ => true | .str _, .int _ => true | .bl _, .str _ => true | .str _, .bl _ => true
  | _, _ => false
def rEq : R2 := fun x y H Q => scal x y = true ∧ Q (.bl (decide (x = y))) H
def rNe : R2 := fun x y H Q => scal x y = true ∧ Q (.bl (!decide (x = y))) H

section
variable {X : Cx} {a b c : Expr} {ta tb tc : TE} {pos : Pos}
theorem fin_bl {pins : List (Addr × Obj)} {σ : St} {H : Hp} {s : Shared} {Q : VK} {k k' : Bool} (I : Inv X pins σ H s) (q : Q (.bl k) H) (e : k = k') : EP X pins σ Q (.bool k') s := by
  subst e
  exact ⟨.bl k, H, I, rfl, q⟩
theorem op_lt : OpR X (compareOp .Lt) (rI0 fun i j => .bl (decide (i < j))) := opB0 fun _ _ _ _ _ _ _ q => lt_int q
theorem op_le : OpR X (compareOp .LtE) (rI0 fun i j => .bl (decide (i ≤ j))) := opB0 fun _ _ _ _ _ _ _ q => le_int q
theorem op_gt : OpR X (compareOp .Gt) (rI0 fun i j => .bl (decide (j < i))) := opB0 fun _ _ _ _ _ _ _ q => gt_int q
theorem op_isN : OpR X (compareOp .Is) (fun x y H Q => y = .non ∧ Q (.bl (decide (x = .non))) H) := by
  intro pins s σ H x y v u Q I rx ry h
  obtain ⟨rfl, q⟩ := h
  cases ry
  refine is_none_gen (fin_bl I q ?_)
  cases x <;> first
    | (cases rx; rfl)
    | (obtain ⟨t, rfl⟩ := rx; rfl)
def isObj : HO → Bool
  | .lst _ => true
  | .ins _ _ _ => true
  | _ => false
theorem nomark (b : Expr) {op : CmpOp} (h : op ≠ .In := by decide) (h2 : op ≠ .NotIn := by decide) : behindInMarks op b = false := by
  have e1 : (op == CmpOp.In) = false := by cases op <;> first | rfl | exact absurd rfl h
  have e2 : (op == CmpOp.NotIn) = false := by cases op <;> first | rfl | exact absurd rfl h2
  cases b <;> simp [behindInMarks, e1, e2]
theorem pe_cmpR {op : CmpOp} {r : R2} (ho : OpR X (compareOp op) r) (ha : PE X a ta) (hb : PE X b tb) (hm : behindInMarks op b = false) : PE X (.Compare a [op] [b] pos) (tOp r ta tb) := by
  intro pins s σ H Q I h
  exact wpAny_Compare1 (binT ha hb I h fun v u s2 x y H2 I2 rx ry q => ho pins s2 σ H2 x y v u Q I2 rx ry q) hm
def tTest (t : TE) : TT := fun σ H Q => t σ H fun x H' => ∃ k, x = .bl k ∧ Q k H'
theorem pt_cmpR {op : CmpOp} {r : R2} (ho : OpR X (compareOp op) r) (ha : PE X a ta) (hb : PE X b tb) (hm : behindInMarks op b = false) : PT X (.Compare a [op] [b] pos) (tTest (tOp r ta tb)) := by
  intro pins s σ H Q I h
  refine wpAny_isTrue_Compare1 (thn (ha pins s σ H _ I h) fun v s1 ⟨x, H1, I1, r1, q1⟩ => thn (hb pins s1 σ H1 _ I1 q1) fun u s2 ⟨y, H2, I2, r2, q2⟩ =>
    thn (ho pins s2 σ H2 x y v u _ I2 r1 r2 q2) fun c s3 ⟨z, H3, I3, r3, k, e, q3⟩ => ?_) hm
  subst e
  cases r3
  exact wpAny_truthy_bool ⟨H3, I3, q3⟩
def tChain (r r' : R2) (ta tb tc : TE) : TE := fun σ H Q => ta σ H fun x H1 => tb σ H1 fun y H2 => r x y H2 fun z H3 => ∃ k, z = .bl k ∧
  (if k = true then tc σ H3 fun w' H4 => r' y w' H4 Q else Q (.bl false) H3)
theorem pe_chain {op op' : CmpOp} {r r' : R2} (ho : OpR X (compareOp op) r) (ho' : OpR X (compareOp op') r') (ha : PE X a ta) (hb : PE X b tb) (hc : PE X c tc)
    (hm : lastMarks [op, op'] [b, c] = false := by with_unfolding_all rfl) : PE X (.Compare a [op, op'] [b, c] pos) (tChain r r' ta tb tc) := by
  intro pins s σ H Q I h
  refine Compare_chain (thn (ha pins s σ H _ I h) fun v s1 ⟨x, H1, I1, r1, q1⟩ => chain_link (thn (hb pins s1 σ H1 _ I1 q1) fun u s2 ⟨y, H2, I2, r2, q2⟩ =>
    thn (ho pins s2 σ H2 x y v u _ I2 r1 r2 q2) fun d s3 ⟨z, H3, I3, r3, k, e, q3⟩ => ?_)) hm
  subst e
  cases r3
  refine wpAny_truthy_bool ?_
  cases k with
  | false => exact ite_ff ⟨.bl false, H3, I3, rfl, q3⟩
  | true => exact ite_tt (chain_last (thn (hc pins s3 σ H3 _ I3 q3) fun w' s4 ⟨z', H4, I4, r4, q4⟩ => ho' pins s4 σ H4 y z' u w' Q I4 r2 r4 q4))
theorem pt_chain {op op' : CmpOp} {r r' : R2} (ho : OpR X (compareOp op) r) (ho' : OpR X (compareOp op') r') (ha : PE X a ta) (hb : PE X b tb) (hc : PE X c tc)
    (hm : lastMarks [op, op'] [b, c] = false := by with_unfolding_all rfl) : PT X (.Compare a [op, op'] [b, c] pos) (tTest (tChain r r' ta tb tc)) := by
  intro pins s σ H Q I h
  refine isTrue_chain (thn (ha pins s σ H _ I h) fun v s1 ⟨x, H1, I1, r1, q1⟩ => test_link (thn (hb pins s1 σ H1 _ I1 q1) fun u s2 ⟨y, H2, I2, r2, q2⟩ =>
    thn (ho pins s2 σ H2 x y v u _ I2 r1 r2 q2) fun d s3 ⟨z, H3, I3, r3, k, e, q3⟩ => ?_)) hm
  subst e
  cases r3
  refine wpAny_truthy_bool ?_
  cases k with
  | false =>
    obtain ⟨k', e', q'⟩ := q3
    cases e'
    exact ite_ff ⟨H3, I3, q'⟩
  | true =>
    refine ite_tt (test_last (thn (hc pins s3 σ H3 _ I3 q3) fun w' s4 ⟨z', H4, I4, r4, q4⟩ => thn (ho' pins s4 σ H4 y z' u w' _ I4 r2 r4 q4) fun d' s5 ⟨z2, H5, I5, r5, k2, e2, q5⟩ => ?_))
    subst e2
    cases r5
    exact wpAny_truthy_bool ⟨H5, I5, q5⟩

def TruV (K : PySem.W.Frag) (x : V) (H : Hp) (k : Bool) : Prop :=
  match x with
  | .non => k = false
  | .bl b => k = b
  | .int i => k = (i != 0)
  | .str y => y.length ≤ sizeLine ∧ k = ((y.length : Int) != 0)
  | .byt y => y.size ≤ sizeLine ∧ k = ((y.size : Int) != 0)
  | .ref p => (∃ xs, SqL K H p xs ∧ k = !xs.isEmpty) ∨ (∃ xs, SqT K H p xs ∧ k = !xs.isEmpty) ∨ ∃ kvs, H p = some (.dK kvs) ∧ k = !kvs.isEmpty
  | _ => False
theorem line63 : (sizeLine : Nat) < 2 ^ 63 := by rw [sizeLine_eq]; decide
theorem op_add_str : OpR X (binaryOp .Add) (fun x y H Q => ∃ i j, x = .str i ∧ y = .str j ∧ i.length + j.length ≤ sizeLine ∧ Q (.str (i ++ j)) H) := by
  intro pins s σ H x y v u Q I rx ry h
  obtain ⟨i, j, rfl, rfl, hz, q⟩ := h
  obtain ⟨t, rfl⟩ := rx
  obtain ⟨t', rfl⟩ := ry
  exact add_str (fun t' tk => ⟨.str (i ++ j), H, I.tok _, ⟨_, rfl⟩, q⟩) hz
def PlainIxT (b : Expr) : Prop := ∀ o i, subscripted b false o i = operate [o, i] (getItem o i)
theorem vals1 {x : V} {us : List Value} (r : Vals [x] us) : ∃ u, us = [u] ∧ RelV x u := by
  cases r with
  | cons r1 r2 => cases r2; exact ⟨_, rfl, r1⟩
theorem vals2 {x y : V} {us : List Value} (r : Vals [x, y] us) : ∃ u w', us = [u, w'] ∧ RelV x u ∧ RelV y w' := by
  cases r with
  | cons r1 r2 =>
    cases r2 with
    | cons r3 r4 => cases r4; exact ⟨_, _, rfl, r1, r3⟩
theorem call_abs : CallR X (.builtin "abs") (fun xs H Q => ∃ i, xs = [.int i] ∧ Q (.int (if i < 0 then -i else i)) H) := by
  intro pins s σ H xs us Q I r h
  obtain ⟨i, rfl, q⟩ := h
  obtain ⟨u, rfl, t, rfl⟩ := vals1 r
  exact call_abs_int fun u tk => ⟨.int (if i < 0 then -i else i), H, I.tok _, ⟨_, rfl⟩, q⟩
theorem call_max2 (hc : X.calm = true) : CallR X (.builtin "max") (fun xs H Q => ∃ i j, xs = [.int i, .int j] ∧ Q (.int (if j > i then j else i)) H) := by
  intro pins s σ H xs us Q I r h
  obtain ⟨i, j, rfl, q⟩ := h
  obtain ⟨u, w', rfl, ⟨t, rfl⟩, ⟨t', rfl⟩⟩ := vals2 r
  refine max_two_ints (I.ok.hd hc) fun h' tk k => ⟨_, H, I.kept k, ?_, q⟩
  by_cases hj : j > i
  · rw [if_pos hj, if_pos hj]; exact ⟨_, rfl⟩
  · rw [if_neg hj, if_neg hj]; exact ⟨_, rfl⟩
theorem call_min2 (hc : X.calm = true) : CallR X (.builtin "min") (fun xs H Q => ∃ i j, xs = [.int i, .int j] ∧ Q (.int (if j < i then j else i)) H) := by
  intro pins s σ H xs us Q I r h
  obtain ⟨i, j, rfl, q⟩ := h
  obtain ⟨u, w', rfl, ⟨t, rfl⟩, ⟨t', rfl⟩⟩ := vals2 r
  refine min_two_ints (I.ok.hd hc) fun h' tk k => ⟨_, H, I.kept k, ?_, q⟩
  by_cases hj : j < i
  · rw [if_pos hj, if_pos hj]; exact ⟨_, rfl⟩
  · rw [if_neg hj, if_neg hj]; exact ⟨_, rfl⟩
def LenV (K : PySem.W.Frag) (x : V) (H : Hp) (n : Nat) : Prop :=
  match x with
  | .str y => y.length ≤ sizeLine ∧ n = y.length
  | .byt y => y.size ≤ sizeLine ∧ n = y.size
  | .ref p => (∃ xs, SqL K H p xs ∧ n = xs.length) ∨ ∃ xs, SqT K H p xs ∧ n = xs.length
  | _ => False
end
end L2

namespace L2
open PySem PySem.Spec PyProof.Rows

structure ObjM (h : Heap) (x dx C : Addr) (mA : Str → Option Value) : Prop where
  obj : h.get? x = some (PySem.W.instObj C dx)
  ns : h.Ns1 dx mA
  ne : dx ≠ x

theorem lookIn_ns {h : Heap} {dx : Addr} {mA : Str → Option Value} (n : h.Ns1 dx mA) : ∃ od, h.get? dx = some od ∧ ∀ name, PySem.W.lookIn name od = some (mA name) := by
  obtain ⟨o, es, ep, ho, hd, hk, _, hm⟩ := n
  refine ⟨o, ho, fun name => ?_⟩
  have e := hm name
  unfold nsFind findBy at e
  rw [← Array.find?_toList] at e
  unfold PySem.W.lookIn
  rw [hd]
  dsimp only
  split
  · rename_i y q
    rw [q] at e
    exact congrArg some e
  · rename_i q
    rw [q] at e
    have a : es.toList.any (·.refKey) = false := by
      rw [List.any_eq_false]
      intro y hy
      obtain ⟨z, t, hkey⟩ := hk y (Array.mem_toList_iff.mp hy)
      simp [DictEntry.refKey, hkey]
    have a' : ¬ es.toList.any (·.refKey) = true := by rw [a]; exact Bool.false_ne_true
    rw [if_neg a']
    exact congrArg some e

theorem ObjM.look {h : Heap} {x dx C : Addr} {mA : Str → Option Value} (I : ObjM h x dx C mA) : ∃ od, PySem.W.InstAt h x (PySem.W.instObj C dx) C (some od) ∧ ∀ name, PySem.W.lookIn name od = some (mA name) :=
  let ⟨od, ho, hl⟩ := lookIn_ns I.ns
  ⟨od, ⟨I.obj, rfl, rfl, ho⟩, hl⟩

section
variable {prog : Program} {w : World} {A : Around} {E : Value → Shared → Prop} {s : Shared} {K : PySem.W.Frag} {x dx C f : Addr} {mA : Str → Option Value} {name : Str} {v : Value}

end

def putF (f : Str) (v : V) : List (Str × V) → List (Str × V)
  | [] => [(f, v)]
  | (g, x) :: r => if g = f then (g, v) :: r else (g, x) :: putF f v r
theorem RelO.some_of {v : V} {o : Option Value} (r : RelO (some v) o) : ∃ u, o = some u ∧ RelV v u := by
  cases o with
  | none => exact (show False from r).elim
  | some u => exact ⟨u, rfl, r⟩
theorem handed_of {v : V} {u : Value} (r : RelV v u) : PySem.W.handedIn u = true := by
  cases v with
  | non => cases (show u = Value.none from r); rfl
  | bl b => cases (show u = Value.bool b from r); rfl
  | int i => obtain ⟨t, e⟩ := (show ∃ t, u = Value.int i t from r); cases e; rfl
  | str x => obtain ⟨t, e⟩ := (show ∃ t, u = Value.str x t from r); cases e; rfl
  | byt b => obtain ⟨t, e⟩ := (show ∃ t, u = Value.bytes b t from r); cases e; rfl
  | flt b => obtain ⟨t, e⟩ := (show ∃ t, u = Value.float b t from r); cases e; rfl
  | ref a => cases (show u = Value.ref a from r); rfl
  | ty n => cases (show u = Value.type n from r); rfl

section
variable {P : Program} {w : World} {H H' : Hp} {h h' : Heap} {a C dx : Addr} {fs fs' : List (Str × V)}
theorem ins_get (hok : HOk P w H h) (e : H a = some (.ins C dx fs)) : ∃ mA, ObjM h a dx C mA ∧ (∀ f, RelO (fs.lookup f) (mA f)) ∧ PySem.Within mA (fs.map (·.1)) ∧ fs.length ≤ 1000 ∧ H dx = some (.own a) := by
  obtain ⟨d, z, ne, ob, mA, n, r, q⟩ := (show ObjOk P w H h a (.ins C dx fs) from hok a _ e)
  exact ⟨mA, ⟨ob, n, ne⟩, r, q, z, d⟩
end

structure Cls (K : PySem.W.Frag) (C : Addr) : Prop where
  pg : PySem.W.plainGet K C Str.empty = true
  hd : PySem.W.hasDictIn K C = true
  po : PySem.W.plainOver K C = true
  sa : PySem.W.findIn K (.ref C) "__setattr__" = some (some (.builtin "object.__setattr__"))
theorem Cls.get {K : PySem.W.Frag} {C : Addr} (c : Cls K C) (f : Str) : PySem.W.plainGet K C f = true := c.pg
def NoAttr (K : PySem.W.Frag) (C : Addr) (f : Str) : Prop := PySem.W.findIn K (.ref C) f = some none
structure Con (K : PySem.W.Frag) (C : Addr) (f : Str) (v : V) (u : Value) : Prop where
  at_ : PySem.W.findIn K (.ref C) f = some (some u)
  rel : RelV v u
  get : PySem.W.specialIn K u "__get__" = some none
  cp : PySem.W.copiedNames.contains f = false
structure Meth (K : PySem.W.Frag) (C : Addr) (m : Str) (f : Addr) : Prop where
  at_ : PySem.W.findIn K (.ref C) m = some (some (.ref f))
  fn : PySem.W.isFn K (.ref f) = true
  kp : PySem.W.keepIn K (.ref f) = true

section
variable {X : Cx} {pins : List (Addr × Obj)} {σ : St} {H : Hp} {s : Shared} {a C dx : Addr} {fs : List (Str × V)} {f : Str} {v : V} {A : Around} {E : Value → Shared → Prop}

theorem attr_of {prog : Program} {w : World} {env : Env} {e : Expr} {f : Str} {pos : Pos} {s : Shared} {Q : Value → Shared → Prop} (hb : attributeBase e f env (eval e env) = eval e env)
    (h : wpAny (model prog w) A (eval e env) (fun o s₁ => wpAny (model prog w) A (getAttr o f true) Q E s₁) E s) : wpAny (model prog w) A (eval (.Attribute e f pos) env) Q E s :=
  Attribute_any_ h (by rw [arm_eval_Attribute, hb])
end

def tFld (K : PySem.W.Frag) (ta : TE) (f : Str) : TE := fun σ H Q => ta σ H fun x H1 => ∃ a C dx fs v, x = .ref a ∧ H1 a = some (.ins C dx fs) ∧ Cls K C ∧ NoAttr K C f ∧ fs.lookup f = some v ∧ Q v H1
def tCon (K : PySem.W.Frag) (ta : TE) (f : Str) : TE := fun σ H Q => ta σ H fun x H1 => ∃ a C dx fs v u, x = .ref a ∧ H1 a = some (.ins C dx fs) ∧ Cls K C ∧ Con K C f v u ∧ fs.lookup f = none ∧ Q v H1
def sFld (K : PySem.W.Frag) (ta tv : TE) (f : Str) : TS := fun D σ H => tv σ H fun y H1 => ta σ H1 fun x H2 => ∃ a C dx fs, x = .ref a ∧ H2 a = some (.ins C dx fs) ∧ Cls K C ∧ NoAttr K C f ∧ fs.length < 1000 ∧
  D.nx σ (upd H2 a (.ins C dx (putF f y fs)))
def InOp (X : Cx) (op : Operator) (rd : V → V → Hp → VK → Prop) : Prop :=
  ∀ (pins : List (Addr × Obj)) (s : Shared) (σ : St) (H : Hp) (x y : V) (u v : Value) (Q : VK), Inv X pins σ H s → RelV x u → RelV y v → rd x y H Q → wpAny (model X.prog X.w) X.A (inplaceOp op u v) (EP X pins σ Q) X.xe s
def sFldAug (K : PySem.W.Frag) (ta tv : TE) (rd : V → V → Hp → VK → Prop) (f : Str) : TS := fun D σ H => ta σ H fun x H1 => ∃ a C dx fs v, x = .ref a ∧ H1 a = some (.ins C dx fs) ∧ Cls K C ∧ NoAttr K C f ∧ fs.lookup f = some v ∧
  tv σ H1 fun y H2 => rd v y H2 fun z H3 => ∃ dx' fs', H3 a = some (.ins C dx' fs') ∧ fs'.length < 1000 ∧ D.nx σ (upd H3 a (.ins C dx' (putF f z fs')))

section
variable {X : Cx} {o e value : Expr} {f : Str} {pos pos' tpos : Pos} {ta tv : TE}
def rAdd : V → V → Hp → VK → Prop := fun x y H Q => ∃ i j, x = .int i ∧ y = .int j ∧ Q (.int (i + j)) H
def rSub : V → V → Hp → VK → Prop := fun x y H Q => ∃ i j, x = .int i ∧ y = .int j ∧ Q (.int (i - j)) H
end

section
variable {X : Cx} {pins : List (Addr × Obj)} {σ : St} {H : Hp} {s : Shared} {A : Around} {E : Value → Shared → Prop} {Q : Value → Shared → Prop} {c : Value} {b : Bool}
inductive TyOf (K : PySem.W.Frag) (H : Hp) : V → Value → Prop where
  | non : TyOf K H .non (.type "NoneType")
  | bl (x : Bool) : TyOf K H (.bl x) (.type "bool")
  | int (i : Int) : TyOf K H (.int i) (.type "int")
  | str (x : Str) : TyOf K H (.str x) (.type "str")
  | flt (x : UInt64) : TyOf K H (.flt x) (.type "float")
  | lst {a : Addr} {xs : List V} (e : H a = some (.lst xs)) : TyOf K H (.ref a) (.type "list")
  | frz {a : Addr} {o : Obj} {xs : List V} (e : H a = some (.frz o (.lst xs))) : TyOf K H (.ref a) (.type "list")
  | tup {a : Addr} {xs : List V} (e : H a = some (.tup xs)) : TyOf K H (.ref a) (.type "tuple")
  | dK {a : Addr} {kvs : List (Key × V)} (e : H a = some (.dK kvs)) : TyOf K H (.ref a) (.type "dict")
  | dT {a : Addr} {kvs : List (List Key × V)} (e : H a = some (.dT kvs)) : TyOf K H (.ref a) (.type "dict")
  | ins {a C dx : Addr} {fs : List (Str × V)} (e : H a = some (.ins C dx fs)) (cl : Cls K C) (ha : PySem.W.findIn K (.ref C) "__class__" = some (some (.builtin "object.__class__")))
      (hn : PySem.W.specialIn K (.builtin "object.__class__") "__get__" = some (some (.builtin "getset_descriptor.__get__"))) (htk : PySem.W.takesIn K (.builtin "object.__class__") = some true)
      (hm : PySem.W.mroIn K C (.type "object") = some true) : TyOf K H (.ref a) (.ref C)
theorem isinst_ok {x : V} {u t : Value} (I : Inv X pins σ H s) (rx : RelV x u) (ty : TyOf X.K H x t) (e : PySem.W.kitOne X.K t c = some b) (h : ∀ tk, Q (.bool b) { s with toks := tk }) :
    wpAny (model X.prog X.w) A (call (.builtin "isinstance") [u, c]) Q E s := by
  cases ty with
  | non => cases (show u = Value.none from rx); exact PySem.W.kia_one PySem.W.kitx_none I.kIn True.intro e (fun z => nomatch z) h
  | bl y => cases (show u = Value.bool y from rx); exact PySem.W.kia_one PySem.W.kitx_bool I.kIn True.intro e (fun z => nomatch z) h
  | int i => obtain ⟨t, q⟩ := (show ∃ t, u = Value.int i t from rx); cases q; exact PySem.W.kia_one PySem.W.kitx_int I.kIn True.intro e (fun z => nomatch z) h
  | str y => obtain ⟨t, q⟩ := (show ∃ t, u = Value.str y t from rx); cases q; exact PySem.W.kia_one PySem.W.kitx_str I.kIn True.intro e (fun z => nomatch z) h
  | flt y => obtain ⟨t, q⟩ := (show ∃ t, u = Value.float y t from rx); cases q; exact PySem.W.kia_one PySem.W.kitx_float I.kIn True.intro e (fun z => nomatch z) h
  | @lst a xs ea =>
    cases (show u = Value.ref a from rx)
    obtain ⟨_, _, n, _, h1⟩ := (show ObjOk X.prog X.w H s.heap a (.lst xs) from I.hok a _ ea)
    exact PySem.W.kia_one PySem.W.kitx_list I.kIn ⟨_, h1, rfl⟩ e (fun z => nomatch z) h
  | @frz a ob xs ea =>
    cases (show u = Value.ref a from rx)
    obtain ⟨_, _, _, n, _, h1⟩ := (show ObjOk X.prog X.w H s.heap a (.frz ob (.lst xs)) from I.hok a _ ea)
    exact PySem.W.kia_one PySem.W.kitx_list I.kIn ⟨_, h1, rfl⟩ e (fun z => nomatch z) h
  | @tup a xs ea =>
    cases (show u = Value.ref a from rx)
    obtain ⟨_, _, _, p⟩ := (show ObjOk X.prog X.w H s.heap a (.tup xs) from I.hok a _ ea)
    obtain ⟨o, h1, h2, _⟩ := p
    exact PySem.W.kia_one PySem.W.kitx_tuple I.kIn ⟨o, h1, h2⟩ e (fun z => nomatch z) h
  | @dK a kvs ea =>
    cases (show u = Value.ref a from rx)
    obtain ⟨_, _, vs, _, p⟩ := (show ObjOk X.prog X.w H s.heap a (.dK kvs) from I.hok a _ ea)
    obtain ⟨o, es, ep, h1, h2, _⟩ := p
    exact PySem.W.kia_one PySem.W.kitx_dict I.kIn ⟨o, h1, h2.1⟩ e (fun z => nomatch z) h
  | @dT a kvs ea =>
    cases (show u = Value.ref a from rx)
    obtain ⟨_, _, xs, _, o, es, ep, h1, h2, _⟩ := (show ObjOk X.prog X.w H s.heap a (.dT kvs) from I.hok a _ ea)
    exact PySem.W.kia_one PySem.W.kitx_dict I.kIn ⟨o, h1, h2.1⟩ e (fun z => nomatch z) h
  | @ins a C dx fs ea cl ha hn htk hm =>
    cases (show u = Value.ref a from rx)
    obtain ⟨mA, O, _⟩ := ins_get I.hok ea
    obtain ⟨od, J, _⟩ := O.look
    exact PySem.W.kia_one (PySem.W.kitx_own (cl.get _) cl.hd ha hn htk hm) I.kIn J e (fun z => nomatch z) h
end
end L2

namespace L2
open PySem PySem.Spec PyProof.Rows

structure Room (k : Nat) (A : Around) : Prop where
  hd : A.handled = none
  dp : A.depth + 3 * k + 5 < recursionLimit
  un : A.units + 16 * k + 200 < cLine
theorem Room.mono {j k : Nat} {A : Around} (r : Room k A) (h : j ≤ k) : Room j A := ⟨r.hd, by have := r.dp; omega, by have := r.un; omega⟩
theorem Room.deeper {k : Nat} {A : Around} (r : Room (k + 1) A) (env : Env) : Room k (A.deeper env) :=
  ⟨r.hd, by have := r.dp; show A.depth + 1 + 3 * k + 5 < _; omega, by have := r.un; show A.units + 3 + 16 * k + 200 < _; omega⟩
theorem make_depth {A : Around} {C : Addr} {us : List Value} {kw : List (Str × Value)} : (A.under (.builtin "type.__call__" ⟨.ref C :: us, kw⟩)).depth = A.depth + 1 := by
  first | rfl | simp [Around.under, Code.weight, Code.isCreation, Code.isGuard, Code.isCaller, Code.frames, Code.isFrame, guardIds]
theorem make_units {A : Around} {C : Addr} {us : List Value} {kw : List (Str × Value)} : (A.under (.builtin "type.__call__" ⟨.ref C :: us, kw⟩)).units = A.units + 1 := by
  first | rfl | simp [Around.under, Code.cUnits, Code.frames, Code.isFrame]
theorem Room.make {k : Nat} {A : Around} (r : Room (k + 1) A) (C : Addr) (us : List Value) (kw : List (Str × Value)) : Room k (A.under (.builtin "type.__call__" ⟨.ref C :: us, kw⟩)) :=
  ⟨r.hd, by have := r.dp; rw [make_depth]; omega, by have := r.un; rw [make_units]; omega⟩
theorem Room.depth {k : Nat} {A : Around} (r : Room k A) : A.depth < recursionLimit := by have := r.dp; omega
theorem Room.units {k : Nat} {A : Around} (r : Room k A) : A.units + 64 < cLine := by have := r.un; omega
def tNil : TA := fun _ H Q => Q [] H
def tCons (ta : TE) (tr : TA) : TA := fun σ H Q => ta σ H fun x H1 => tr σ H1 fun xs H2 => Q (x :: xs) H2
section
variable {X : Cx} {e : Expr} {es : List Expr} {te : TE} {t : TA} {pos : Pos}
theorem pa_nil : PA X [] tNil := fun _ _ _ _ H Q I h => Calls.spliced_nil ⟨[], H, I, .nil, h⟩
theorem pa_cons (ha : PE X e te) (hr : PA X es t) (hs : starEach (e :: es) X.env = (false, eval e X.env) :: starEach es X.env := by rfl) : PA X (e :: es) (tCons te t) := by
  intro pos pins s σ H Q I h
  rw [hs]
  show wpAny _ _ (spliced ((false, eval e X.env) :: backTo pos (starEach es X.env))) _ _ s
  refine Calls.spliced_cons (thn (ha pins s σ H _ I h) fun u s1 ⟨x, H1, I1, r1, q1⟩ => ?_)
  exact thn (hr pos pins s1 σ H1 _ I1 q1) fun us s2 ⟨xs, H2, I2, r2, q2⟩ => ⟨x :: xs, H2, I2, .cons r1 r2, q2⟩

def tTup (t : TA) : TE := fun σ H Q => t σ H fun xs H1 => xs.length ≤ sizeLine ∧ ∀ p, H1 p = none → Q (.ref p) (upd H1 p (.tup xs))
def tLst (t : TA) : TE := fun σ H Q => t σ H fun xs H1 => xs.length ≤ sizeLine ∧ ∀ p, H1 p = none → Q (.ref p) (upd H1 p (.lst xs))
theorem pe_tup {x1} (h : PA X es t) : PE X (.Tuple es x1 pos) (tTup t) := by
  intro pins s σ H Q I hq
  refine wpAny_Tuple_spliced (thn (h pos pins s σ H _ I hq) fun us s1 ⟨xs, H1, I1, r, z, q⟩ => ⟨by rw [← r.length]; exact z, ?_⟩)
  have hf : H1 s1.heap.objs.size = none := I1.hok.fresh (Nat.le_refl _)
  refine ⟨.ref s1.heap.objs.size, upd H1 s1.heap.objs.size (.tup xs), I1.laid (t' := s1.toks) (fun b u e => Heap.get?_push_of_some _ e) (Nat.le_refl _) ?_, rfl, q _ hf⟩
  exact ⟨z, us, r, ⟨_, Heap.get?_push_size _ rfl, rfl, _, rfl⟩⟩
theorem pe_lst (h : PA X es t) : PE X (.List es pos) (tLst t) := by
  intro pins s σ H Q I hq
  refine wpAny_List_spliced (thn (h pos pins s σ H _ I hq) fun us s1 ⟨xs, H1, I1, r, z, q⟩ => ⟨by rw [← r.length]; exact z, ?_⟩)
  have hf : H1 s1.heap.objs.size = none := I1.hok.fresh (Nat.le_refl _)
  refine ⟨.ref s1.heap.objs.size, upd H1 s1.heap.objs.size (.lst xs), I1.laid (t' := s1.toks) (fun b u e => Heap.get?_push_of_some _ e) (Nat.le_refl _) ?_, rfl, q _ hf⟩
  exact ⟨z, us, 0, r, Heap.get?_push_size _ rfl⟩
end

abbrev Sp := List V → Hp → VK → XK → Prop
abbrev CXT := List Env → Hp → Shared → XK → Value → Shared → Prop

structure Env0 (P : Program) (w : World) (K : PySem.W.Frag) (mg : Str → Option Value) (base : Heap) (A : Around) (outer : List Env) (s : Shared) (H : Hp) : Prop where
  frames : A.frames = some outer
  mod : Mod K mg base
  bs : ∀ b o, base.get? b = some o → s.heap.get? b = some o ∧ H b = none
  bsz : base.objs.size ≤ s.heap.objs.size
  funs : s.heap.FunFrames base outer
  frf : ∀ b ∈ frs outer, H b = none
  hok : HOk P w H s.heap
  bare : AllBare s.gens
def CE (outer : List Env) (P : Program) (w : World) (H : Hp) (s : Shared) (Q : VK) (u : Value) (s' : Shared) : Prop :=
  ∃ v H', s'.os = s.os ∧ AllBare s'.gens ∧ Un (frs outer) [] H H' s.heap s'.heap ∧ HOk P w H' s'.heap ∧ RelV v u ∧ Q v H'
def CR (CX : CXT) (outer : List Env) (P : Program) (w : World) (H : Hp) (s : Shared) (Q : VK) (E : XK) (r : Result) (s' : Shared) : Prop :=
  match r with
  | .ok (.ret u) => CE outer P w H s Q u s'
  | .ok _ => False
  | .error e => CX outer H s E e s'
structure FnOk (P : Program) (w : World) (K : PySem.W.Frag) (mg : Str → Option Value) (base : Heap) (CX : CXT) (k : Nat) (f : Addr) (fd : FuncData) (ps : List Str) (sp : Sp) : Prop where
  len : ∀ vs H Q E, sp vs H Q E → vs.length = ps.length
  run : ∀ (A : Around) (outer : List Env) (s : Shared) (H : Hp) (args : Args) (us : List Value) (vs : List V) (Q : VK) (E : XK), Room k A → Env0 P w K mg base A outer s H → BindsTo s fd args (ps.zip us) → Vals vs us → sp vs H Q E →
    codeAny (model P w) A (.call (.ref f) args) (CR CX outer P w H s Q E) s
theorem Env0.make {P : Program} {w : World} {K : PySem.W.Frag} {mg : Str → Option Value} {base : Heap} {A : Around} {outer : List Env} {s : Shared} {H : Hp} (e : Env0 P w K mg base A outer s H) (C : Addr) (us : List Value) (kw : List (Str × Value)) :
    Env0 P w K mg base (A.under (.builtin "type.__call__" ⟨.ref C :: us, kw⟩)) outer s H := ⟨by first | exact e.frames | (simpa [Around.under, Code.envs, Code.isFrame, pushEnvs] using e.frames), e.mod, e.bs, e.bsz, e.funs, e.frf, e.hok, e.bare⟩
section
variable {X : Cx} {pins : List (Addr × Obj)} {σ : St} {H : Hp} {s s' : Shared}
theorem Inv.env0 (I : Inv X pins σ H s) : Env0 X.prog X.w X.K X.mg X.base X.A X.stack s H :=
  ⟨I.ok.frames, I.ok.mod, I.bs, Nat.le_trans I.ok.bsz I.sz, I.stack, I.stkFree, I.hok, I.bare⟩
theorem Inv.after {Q : VK} {u : Value} (I : Inv X pins σ H s) (h : CE X.stack X.prog X.w H s Q u s') : EP X pins σ Q u s' := by
  obtain ⟨v, H', os, bare, un, hok, r, q⟩ := h
  obtain ⟨hh, g, d, t, os'⟩ := s'
  obtain rfl : os' = s.os := os
  exact ⟨v, H', I.call (h' := hh) (g' := g) (d' := d) (t' := t) (ch := []) un hok bare (fun b z => absurd z (by simp)), r, q⟩
end

def tCall (sp : Sp) (dvs : List V) (E : XK) (t : TA) : TE := fun σ H Q => t σ H fun vs H1 => sp (vs ++ dvs) H1 Q E
def tMeth (C : Addr) (m : Str) (sp : Sp) (dvs : List V) (E : XK) (ta : TE) (t : TA) : TE := fun σ H Q => ta σ H fun x H1 => ∃ a dx fs, x = .ref a ∧ H1 a = some (.ins C dx fs) ∧ fs.lookup m = none ∧
  t σ H1 fun vs H2 => sp (x :: (vs ++ dvs)) H2 Q E
def tMake (C : Addr) (sp : Sp) (dvs : List V) (E : XK) (t : TA) : TE := fun σ H Q => t σ H fun vs H1 => ∀ x dx, H1 x = none → H1 dx = none → dx ≠ x →
  sp (.ref x :: (vs ++ dvs)) (upd (upd H1 dx (.own x)) x (.ins C dx [])) (fun v H2 => v = .non ∧ Q (.ref x) H2) E

def Binds (K : PySem.W.Frag) (fd : FuncData) (ps : List Str) (ds : List Value) : Prop :=
  ∀ (s : Shared) (us : List Value), K.In s.heap → (us ++ ds).length = ps.length → BindsTo s fd ⟨us, []⟩ (ps.zip (us ++ ds))
theorem Binds.all {K : PySem.W.Frag} {fd : FuncData} {ps : List Str} (h : ∀ us : List Value, us.length = ps.length → bindArgs fd ⟨us, []⟩ = pure (ps.zip us)) : Binds K fd ps [] := fun s us _ hl => by
  rw [List.append_nil] at hl ⊢
  exact .of_eq (h us hl)

def Passes (CX : CXT) (X : Cx) (E : XK) : Prop := ∀ (pins : List (Addr × Obj)) (σ : St) (H : Hp) (s : Shared) (e : Value) (s' : Shared), Inv X pins σ H s → CX X.stack H s E e s' → X.xe e s'

section
variable {X : Cx} {CX : CXT} {k : Nat} {f C : Addr} {fd : FuncData} {ps : List Str} {sp : Sp} {dvs : List V} {ds : List Value} {E : XK} {x m : Str} {p pos apos : Pos} {e o : Expr} {es : List Expr} {ta : TE} {t : TA}

structure Mk (K : PySem.W.Frag) (C f : Addr) : Prop where
  makes : PySem.W.makesIn K C = true
  init : PySem.W.findIn K (.ref C) "__init__" = some (some (.ref f))
  fn : PySem.W.isFn K (.ref f) = true
  kp : PySem.W.keepIn K (.ref C) = true

end

def PK (X : Cx) (kws : List Keyword) (t : TA) : Prop :=
  ∀ (pos : Pos) (pins : List (Addr × Obj)) (s : Shared) (σ : St) (H : Hp) (Q : List V → Hp → Prop), Inv X pins σ H s → t σ H Q → wpAny (model X.prog X.w) X.A (evalAll ((backToKw pos (keywordEach kws X.env)).map (·.2))) (AP X pins σ Q) X.xe s
section
variable {X : Cx} {CX : CXT} {k : Nat} {f C : Addr} {fd : FuncData} {ps ks : List Str} {sp : Sp} {E : XK} {x m : Str} {p pos apos kpos : Pos} {e o : Expr} {es : List Expr} {kws : List Keyword} {te ta : TE} {t tk : TA} {nm : Option Str}
structure KBinds (K : PySem.W.Frag) (fd : FuncData) (ps ks : List Str) (g : List Value → List Value → List Value) (gV : List V → List V → List V) : Prop where
  to : ∀ (s : Shared) (us ws : List Value), K.In s.heap → (g us ws).length = ps.length → BindsTo s fd ⟨us, ks.zip ws⟩ (ps.zip (g us ws))
  rel : ∀ {vs : List V} {us : List Value} {zs : List V} {ws : List Value}, Vals vs us → Vals zs ws → Vals (gV vs zs) (g us ws)
def tCallK (sp : Sp) (gV : List V → List V → List V) (E : XK) (t tk : TA) : TE := fun σ H Q => t σ H fun vs H1 => tk σ H1 fun zs H2 => sp (gV vs zs) H2 Q E
variable {g : List Value → List Value → List Value} {gV : List V → List V → List V}
end

structure FnScope (N P : List Str) (sc : Scope) : Prop where
  kind : sc.kind = .function
  co : sc.isCoroutine = false
  gen : sc.isGenerator = false
  nd : N.Nodup
  pre : N.take P.length = P
  par : ∀ x ∈ P, sc.names.lookup x = some .local ∨ sc.names.lookup x = some .cell
  nofree : ∀ y ∈ sc.names, y.2 ≠ .free

theorem bindL_out {kindOf : Str → Option NameKind} {x : Str} : ∀ {binds : List (Str × Value)} {m : Str → Option Value}, (∀ v, (x, v) ∉ binds) → bindL kindOf binds m x = m x
  | [], _, _ => rfl
  | (n, v) :: r, m, h => by
    unfold bindL
    rw [bindL_out fun w hw => h w (List.mem_cons_of_mem _ hw)]
    split
    · have : x ≠ n := by rintro rfl; exact h v List.mem_cons_self
      simp [this]
    · rfl
theorem bindC_out {kindOf : Str → Option NameKind} {x : Str} : ∀ {binds : List (Str × Value)} {m : Str → Option Value}, (∀ v, (x, v) ∉ binds) → bindC kindOf binds m x = m x
  | [], _, _ => rfl
  | (n, v) :: r, m, h => by
    unfold bindC
    rw [bindC_out fun w hw => h w (List.mem_cons_of_mem _ hw)]
    split
    · rfl
    · have : x ≠ n := by rintro rfl; exact h v List.mem_cons_self
      simp [this]
theorem bindL_get {kindOf : Str → Option NameKind} {x : Str} {v : Value} : ∀ {P : List Str} {vs : List Value} {i : Nat} {m : Str → Option Value}, P.Nodup → P[i]? = some x → vs[i]? = some v → kindOf x = some .local →
    bindL kindOf (P.zip vs) m x = some v
  | [], _, _, _, _, h, _, _ => by simp at h
  | _ :: _, [], _, _, _, _, h, _ => by simp at h
  | p :: P, w :: vs, 0, m, nd, h1, h2, hk => by
    simp at h1 h2; subst h1; subst h2
    show bindL kindOf ((p, w) :: P.zip vs) m p = _
    unfold bindL
    rw [bindL_out fun v hv => (List.nodup_cons.mp nd).1 (List.of_mem_zip hv).1, if_pos hk]
    simp
  | p :: P, w :: vs, i + 1, m, nd, h1, h2, hk => by
    show bindL kindOf ((p, w) :: P.zip vs) m x = _
    unfold bindL
    exact bindL_get (i := i) (List.nodup_cons.mp nd).2 (by simpa using h1) (by simpa using h2) hk
theorem bindC_get {kindOf : Str → Option NameKind} {x : Str} {v : Value} : ∀ {P : List Str} {vs : List Value} {i : Nat} {m : Str → Option Value}, P.Nodup → P[i]? = some x → vs[i]? = some v → kindOf x ≠ some .local →
    bindC kindOf (P.zip vs) m x = some v
  | [], _, _, _, _, h, _, _ => by simp at h
  | _ :: _, [], _, _, _, _, h, _ => by simp at h
  | p :: P, w :: vs, 0, m, nd, h1, h2, hk => by
    simp at h1 h2; subst h1; subst h2
    show bindC kindOf ((p, w) :: P.zip vs) m p = _
    unfold bindC
    rw [bindC_out fun v hv => (List.nodup_cons.mp nd).1 (List.of_mem_zip hv).1, if_neg hk]
    simp
  | p :: P, w :: vs, i + 1, m, nd, h1, h2, hk => by
    show bindC kindOf ((p, w) :: P.zip vs) m x = _
    unfold bindC
    exact bindC_get (i := i) (List.nodup_cons.mp nd).2 (by simpa using h1) (by simpa using h2) hk

def start (N : List Str) (vs : List V) : St := vs.map some ++ List.replicate (N.length - vs.length) none

def cxOf (CX : CXT) (P : Program) (w : World) (K : PySem.W.Frag) (mg : Str → Option Value) (base : Heap) (N : List Str) (qual : Str) (scope : Scope) (f : Addr) (cd : Value) (A : Around) (outer : List Env) (s : Shared) (H : Hp) (E : XK) : Cx where
  prog := P
  w := w
  K := K
  mg := mg
  base := base
  A := A.deeper (envOfC qual scope s.heap.objs.size f cd)
  N := N
  s₀ := s
  H₀ := H
  env := envOfC qual scope s.heap.objs.size f cd
  outer := outer
  stack := envOfC qual scope s.heap.objs.size f cd :: outer
  ex := []
  calm := true
  fn := fun _ => true
  pn := []
  xe := fun e s' => wpAny (model P w) (A.deeper (envOfC qual scope s.heap.objs.size f cd)) (leaving (envOfC qual scope s.heap.objs.size f cd) e) (fun _ s'' => CX outer H s E e s'') (fun e' s'' => CX outer H s E e' s'') s'

theorem cell_has {sc : Scope} {n : Nat} {x : Str} (h : sc.names.lookup x = some .cell) : ∃ c, (cellsFrom n sc.names []).lookup x = some c := by
  have q := PySem.W.cellsFrom_some sc.names n [] (.inl h)
  exact Option.isSome_iff_exists.mp q

theorem inv_start {CX : CXT} {P : Program} {w : World} {K : PySem.W.Frag} {mg : Str → Option Value} {base : Heap} {N ps : List Str} {qual : Str} {scope : Scope} {f : Addr} {cd : Value} {A : Around} {outer : List Env} {s s1 : Shared} {H : Hp} {E : XK} {us : List Value} {vs : List V}
    (S : FnScope N ps scope) (hd : A.handled = none) (e0 : Env0 P w K mg base A outer s H) (hl : vs.length = ps.length) (r : Vals vs us)
    (x : InCallC s s.heap.objs.size (bindL (envOfC qual scope s.heap.objs.size f cd).kindOf (ps.zip us) fun _ => none) (cellsFrom (s.heap.objs.size + 1) scope.names []) (bindC (envOfC qual scope s.heap.objs.size f cd).kindOf (ps.zip us) fun _ => none) s1) :
    Inv (cxOf CX P w K mg base N qual scope f cd A outer s H E) [] (start N vs) H s1 := by
  have hpl : ps.length ≤ N.length := by have := congrArg List.length S.pre; rw [List.length_take] at this; omega
  obtain ⟨h1, tk, rfl, hk⟩ := x.done
  have noA : ∀ b : Addr, b ∉ (cxOf CX P w K mg base N qual scope f cd A outer s H E).ex := fun b z => absurd (show b ∈ ([] : List Addr) from z) (by simp)
  refine ⟨⟨e0.mod, S.kind, rfl, rfl, Nat.le_refl _, fun y z c h1 h2 => ?_, fun y hy => ?_, fun y c _ h => ?_, fun _ => hd, Around.frames_deeper e0.frames, .inr ⟨rfl, rfl⟩, fun b z => absurd z (noA b), e0.bs, e0.bsz, fun b _ _ => noA b, fun b z => absurd z (noA b), e0.funs, e0.frf⟩,
    rfl, e0.bare, Un.kept hk, ⟨_, x.toInCall.ns, fun i y v h1 h2 h3 => ?_⟩, fun y c h => ⟨_, x.cell y c h⟩, e0.hok.fresh (Nat.le_refl _), fun y c h => ?_, fun p hp => absurd (show p ∈ ([] : List (Addr × Obj)) from hp) (by simp), e0.hok.kept hk, ?_⟩
  · exact name_of_addr x.apart (PySem.mem_of_lookup h1) (PySem.mem_of_lookup h2)
  · have hy : scope.names.lookup y = some .cell ∨ scope.names.lookup y = some .free := hy
    rcases hy with hy | hy
    · exact cell_has hy
    · exact absurd rfl (S.nofree _ (PySem.mem_of_lookup hy))
  · exact Nat.le_of_lt (x.above y c (PySem.mem_of_lookup h))
  · have hi : i < vs.length := by
      unfold start at h2
      by_cases hi : i < vs.length
      · exact hi
      · rw [List.getElem?_append_right (by simpa using hi)] at h2
        rw [List.getElem?_replicate] at h2
        split at h2 <;> cases h2
    have ha : vs[i]? = some v := by
      unfold start at h2
      rw [List.getElem?_append_left (by simpa using hi), List.getElem?_map] at h2
      cases e : vs[i]? with
      | none => rw [e] at h2; cases h2
      | some a => rw [e] at h2; cases h2; rfl
    obtain ⟨u, hu, rv⟩ := r.get ha
    have hp : ps[i]? = some y := by
      rw [← S.pre, List.getElem?_take_of_lt (by omega)]; exact h1
    have ndP : ps.Nodup := by rw [← S.pre]; exact S.nd.sublist (List.take_sublist _ _)
    refine ⟨u, rv, ?_⟩
    rcases S.par y (List.mem_of_getElem? hp) with k | k
    · exact .inl ⟨k, bindL_get ndP hp hu k⟩
    · obtain ⟨c, e⟩ := cell_has (n := s.heap.objs.size + 1) k
      refine .inr ⟨.inl k, c, e, ?_⟩
      have q := x.cell y c e
      rw [bindC_get ndP hp hu (by show scope.names.lookup y ≠ _; rw [k]; decide)] at q
      exact q
  · exact e0.hok.fresh (Nat.le_of_lt (x.above y c (PySem.mem_of_lookup h)))
  · unfold start
    show _ = N.length
    rw [List.length_append, List.length_map, List.length_replicate]
    omega

theorem fn_of {CX : CXT} {P : Program} {w : World} {K : PySem.W.Frag} {mg : Str → Option Value} {base : Heap} {k : Nat} {f : Addr} {name qual : Str} {params : Arguments} {body : List Stmt} {scope : Scope} {dV kV doc pm cdv ct oc : Value} {an od : Option Addr}
    {osl : Array (Option Value)} {N ps : List Str} {sp : Sp} (lk : K.lookup f = some ⟨oc, od, .func (PySem.W.fnOf name qual params body scope dV kV doc pm an cdv ct), osl⟩) (hcd : PySem.W.codeIn K cdv qual = true) (S : FnScope N ps scope)
    (len : ∀ vs H Q E, sp vs H Q E → vs.length = ps.length)
    (hbody : ∀ (A : Around) (outer : List Env) (s : Shared) (H : Hp) (vs : List V) (Q : VK) (E : XK), Room k (A.deeper (envOfC qual scope s.heap.objs.size f cdv)) → sp vs H Q E →
      ∃ t, PSs (cxOf CX P w K mg base N qual scope f cdv A outer s H E) body t ∧ t { nx := fun _ H' => Q .non H', rt := Q } (start N vs) H) :
    FnOk P w K mg base CX (k + 1) f (PySem.W.fnOf name qual params body scope dV kV doc pm an cdv ct) ps sp := by
  refine ⟨len, fun A outer s H args us vs Q E hr e0 hb r hsp => ?_⟩
  have hl := len _ _ _ _ hsp
  have KX : K.In s.heap := e0.mod.kin.keeps fun b o e => (e0.bs b o e).1
  have lim : s.heap.NoLimit := e0.mod.nolimit.keeps fun b o e => (e0.bs b o e).1
  have hkind : ∀ y ∈ ps.zip us, scope.names.lookup y.1 = some .local ∨ (scope.names.lookup y.1 = some .cell ∧ ((cellsFrom (s.heap.objs.size + 1) scope.names []).lookup y.1).isSome = true) := fun ⟨n, v⟩ hy => by
    rcases S.par n (List.of_mem_zip hy).1 with q | q
    · exact .inl q
    · exact .inr ⟨q, PySem.W.cellsFrom_some _ _ _ (.inl q)⟩
  refine codeAny_call_function hr.depth (KX _ _ lk) rfl S.co S.gen rfl (PySem.W.codeRec_of KX hcd) (hb _ _ _ _ ?_)
  refine wpAny_newFunctionEnv_cells S.kind hkind fun env he s1 x => ?_
  subst he
  refine ⟨lim.keeps x.toInCall.keep, codeAny_func ?_⟩
  obtain ⟨t, ht, hq⟩ := hbody A outer s H vs Q E (hr.deeper _) hsp
  have I : Inv (cxOf CX P w K mg base N qual scope f cdv A outer s H E) [] (start N vs) H s1 := inv_start S hr.hd e0 hl r x
  refine wpAny_mono (ht [] s1 (start N vs) H _ I hq) (fun fl s' hs => ?_) fun e s' hs => hs
  have fin : ∀ {σ' : St} {H' : Hp} {v : V} {u : Value}, Inv (cxOf CX P w K mg base N qual scope f cdv A outer s H E) [] σ' H' s' → RelV v u → Q v H' → CE outer P w H s Q u s' :=
    fun {σ' H' v u} J rv q => ⟨v, H', J.os, J.bare, J.base, J.hok, rv, q⟩
  cases fl with
  | ret u =>
    obtain ⟨v, σ', H', J, rv, q⟩ := hs
    exact fin J rv q
  | next =>
    obtain ⟨σ', H', J, q⟩ := hs
    exact fin (v := V.non) (u := Value.none) J rfl q
  | brk =>
    obtain ⟨_, _, _, q⟩ := hs
    exact False.elim q
  | cont =>
    obtain ⟨_, _, _, q⟩ := hs
    exact False.elim q
end L2

namespace L2
open PySem PySem.Spec PyProof.Rows
section
variable {X : Cx} {x : Str} {p pos : Pos} {e : Expr} {es : List Expr} {t : TA} {id T : String} {r : List V → Hp → VK → Prop}

def tCB (r : List V → Hp → VK → Prop) (t : TA) : TE := fun σ H Q => t σ H fun vs H1 => r vs H1 Q
theorem pe_callB (hc : CallR X (.builtin id) r) (hg : Gl X x) (hm : X.mg x = none) (hv : bootBuiltins x = some (.builtin id)) (ha : PA X (e :: es) t) (hn : x ≠ "__name__" := by decide) (hdb : (x == ("__debug__" : Str)) = false := by decide)
    (he : starEach (e :: es) X.env = (false, eval e X.env) :: starEach es X.env := by rfl) (hpl : (backTo pos (starEach es X.env)).any (·.1) = false := by rfl) : PE X (.Call (.Name x p) (e :: es) [] pos) (tCB r t) := by
  intro pins s σ H Q I h
  refine wpAny_Call_Name_kw (ld_blt I hg hm hv ?_ hn hdb)
  exact PyProof.Rows.callWith_builtin1 (thn (ha pos pins s σ H _ I h) fun us s1 ⟨vs, H1, I1, r1, q1⟩ => hc pins s1 σ H1 vs us Q I1 r1 q1) he hpl
theorem pe_callTy (hc : CallR X (.type T) r) (hg : Gl X x) (hm : X.mg x = none) (hv : bootBuiltins x = some (.type T)) (ha : PA X (e :: es) t) (hn : x ≠ "__name__" := by decide) (hdb : (x == ("__debug__" : Str)) = false := by decide)
    (he : starEach (e :: es) X.env = (false, eval e X.env) :: starEach es X.env := by rfl) (hpl : (backTo pos (starEach es X.env)).any (·.1) = false := by rfl) : PE X (.Call (.Name x p) (e :: es) [] pos) (tCB r t) := by
  intro pins s σ H Q I h
  refine wpAny_Call_Name_kw (ld_blt I hg hm hv ?_ hn hdb)
  exact PyProof.Rows.callWith_type1 (thn (ha pos pins s σ H _ I h) fun us s1 ⟨vs, H1, I1, r1, q1⟩ => hc pins s1 σ H1 vs us Q I1 r1 q1) he hpl
end
end L2

namespace HT
open PySem PyProof.Rows

def lexLt : List Int → List Int → Bool
  | [], [] => false
  | [], _ :: _ => true
  | _ :: _, [] => false
  | x :: xs, y :: ys => if x = y then lexLt xs ys else decide (x < y)
section
open PySem.SeqAt
open PySem.AutoSeq1 (wpAny_loadPart')
open PySem.MeetsSeq PySem.MeetsSeq2 PySem.MeetsSeq3

end

section
variable {prog : Program} {w : World} {A : Around} {E : Value → Shared → Prop} {s : Shared}

def sIx (n d : Nat) : Option Int → Nat
  | none => d
  | some v => if v < 0 then (v + (n : Int)).toNat else min v.toNat n
end
end HT

namespace L2
open PySem PySem.Spec PyProof.Rows

abbrev TO := St → Hp → (Option Int → Hp → Prop) → Prop
def PO (X : Cx) (e : Option Expr) (t : TO) : Prop :=
  ∀ (pins : List (Addr × Obj)) (s : Shared) (σ : St) (H : Hp) (Q : Option Int → Hp → Prop), Inv X pins σ H s → t σ H Q →
    wpAny (model X.prog X.w) X.A (evalPart e X.env) (fun u s' => ∃ o H', Inv X pins σ H' s' ∧ IsPart u o ∧ Q o H') X.xe s
def tNoPart : TO := fun _ H Q => Q none H
def tPart (t : TE) : TO := fun σ H Q => t σ H fun x H1 => ∃ i, x = .int i ∧ Q (some i) H1

section
variable {X : Cx} {e : Expr} {te : TE} {lo hi : Option Expr} {tl th : TO} {pos p2 : Pos}

theorem po_none : PO X none tNoPart := by
  intro pins s σ H Q I h
  rw [evalPart_none]
  exact wpAny_pure ⟨none, H, I, .none, h⟩
theorem po_some (h : PE X e te) : PO X (some e) (tPart te) := by
  intro pins s σ H Q I hw
  rw [evalPart_some]
  refine thn (h pins s σ H _ I hw) fun u s1 ⟨x, H1, I1, r1, q1⟩ => ?_
  obtain ⟨i, rfl, q⟩ := q1
  obtain ⟨t, rfl⟩ := r1
  exact ⟨some i, H1, I1, .int i t, q⟩

def SlR (X : Cx) (r : V → Option Int → Option Int → Hp → VK → Prop) : Prop :=
  ∀ (pins : List (Addr × Obj)) (s : Shared) (σ : St) (H : Hp) (x : V) (v vl vu : Value) (lo hi : Option Int) (sl : Addr) (Q : VK), Inv X pins σ H s → RelV x v → s.heap.IsSliceOf sl vl vu .none → IsPart vl lo → IsPart vu hi → r x lo hi H Q →
    ∃ T id, typeLookup (.type T) "__getitem__" = pure (some (.builtin id)) ∧ s.TypeIs v T ∧ wpAny (model X.prog X.w) X.A (getItem v (.ref sl)) (EP X pins σ Q) X.xe s
def tSl (r : V → Option Int → Option Int → Hp → VK → Prop) (te : TE) (tl th : TO) : TE := fun σ H Q => te σ H fun x H1 => tl σ H1 fun l H2 => th σ H2 fun u H3 => r x l u H3 Q
theorem pe_slice {r : V → Option Int → Option Int → Hp → VK → Prop} (hr : SlR X r) (he : PE X e te) (hl : PO X lo tl) (hu : PO X hi th) : PE X (.Subscript e (.Slice lo hi none p2) pos) (tSl r te tl th) := by
  intro pins s σ H Q I h
  refine Subscript_ (thn (he pins s σ H _ I h) fun v s1 ⟨x, H1, I1, r1, q1⟩ => ?_)
  refine wpAny_Slice (thn (hl pins s1 σ H1 _ I1 q1) fun vl s2 ⟨l, H2, I2, pl, q2⟩ => thn (hu pins s2 σ H2 _ I2 q2) fun vu s3 ⟨u, H3, I3, pu, q3⟩ => ?_)
  rw [evalPart_none]
  refine wpAny_pure ?_
  have I4 : Inv X pins σ H3 { s3 with heap := s3.heap.push { cls := .type "slice", data := .fields #[vl, vu, .none] } } := I3.kept (t' := s3.toks) fun b ob q => Heap.get?_push_of_some _ q
  obtain ⟨T, id, hT, ht, hg⟩ := hr pins { s3 with heap := s3.heap.push { cls := .type "slice", data := .fields #[vl, vu, .none] } } σ H3 x v vl vu l u s3.heap.objs.size Q I4 r1 (Heap.IsSliceOf.new ..) pl pu q3
  show wpAny (model X.prog X.w) X.A (subscriptTail e (.Slice lo hi none p2) v (.ref s3.heap.objs.size)) (EP X pins σ Q) X.xe { s3 with heap := s3.heap.push { cls := .type "slice", data := .fields #[vl, vu, .none] } }
  exact tail_any (ops := [.ref s3.heap.objs.size, v]) ht hT hg (by with_unfolding_all rfl)

def cutV (xs : List V) (lo hi : Option Int) : List V := (xs.drop (HT.sIx xs.length 0 lo)).take (HT.sIx xs.length xs.length hi - HT.sIx xs.length 0 lo)
theorem cutV_length (xs : List V) (lo hi : Option Int) : (cutV xs lo hi).length ≤ xs.length := by
  unfold cutV
  rw [List.length_take, List.length_drop]
  omega
def rSlT (K : PySem.W.Frag) : V → Option Int → Option Int → Hp → VK → Prop := fun x lo hi H Q => ∃ a xs, x = .ref a ∧ SqT K H a xs ∧
  ¬ (HT.sIx xs.length 0 lo = 0 ∧ HT.sIx xs.length xs.length hi = xs.length) ∧ ∀ p, H p = none → Q (.ref p) (upd H p (.tup (cutV xs lo hi)))
def rLtT (K : PySem.W.Frag) : R2 := fun x y H Q => ∃ a b ns ms, x = .ref a ∧ y = .ref b ∧ SqT K H a (ns.map V.int) ∧ SqT K H b (ms.map V.int) ∧ Q (.bl (HT.lexLt ns ms)) H
def rCatT (K : PySem.W.Frag) : R2 := fun x y H Q => ∃ a b xs ys, x = .ref a ∧ y = .ref b ∧ SqT K H a xs ∧ SqT K H b ys ∧ xs ≠ [] ∧ xs.length + ys.length ≤ sizeLine ∧
  (ys = [] → Q (.ref a) H) ∧ (ys ≠ [] → ∀ p, H p = none → Q (.ref p) (upd H p (.tup (xs ++ ys))))
end
end L2

namespace L2
open PySem PySem.Spec PyProof.Rows

def ixN (n : Nat) (i : Int) : Option Nat := if 0 ≤ i then (if i < n then some i.toNat else none) else if -(n : Int) ≤ i then some (i + n).toNat else none
def atI {α : Type} (xs : List α) (i : Int) : Option α := (ixN xs.length i).bind fun j => xs[j]?
theorem ixN_seq {n : Nat} {i : Int} {j : Nat} (h : ixN n i = some j) : seqIndex? i n = some j ∧ j < n ∧ -(n : Int) ≤ i ∧ i < n := by
  unfold ixN at h
  by_cases h0 : 0 ≤ i
  · rw [if_pos h0] at h
    by_cases h1 : i < n
    · rw [if_pos h1] at h
      have e : i.toNat = j := Option.some.inj h
      exact ⟨by rw [seqIndex_of h0 h1, e], by omega, by omega, h1⟩
    · rw [if_neg h1] at h; cases h
  · rw [if_neg h0] at h
    by_cases h1 : -(n : Int) ≤ i
    · rw [if_pos h1] at h
      have e : (i + n).toNat = j := Option.some.inj h
      exact ⟨by rw [seqIndex_neg (by omega) h1, e], by omega, h1, by omega⟩
    · rw [if_neg h1] at h; cases h
theorem atI_get {α : Type} {xs : List α} {i : Int} {v : α} (h : atI xs i = some v) : ∃ j, seqIndex? i xs.length = some j ∧ xs[j]? = some v ∧ j < xs.length ∧ -(xs.length : Int) ≤ i ∧ i < xs.length := by
  unfold atI at h
  cases e : ixN xs.length i with
  | none => rw [e] at h; cases h
  | some j =>
    rw [e] at h
    obtain ⟨h1, h2, h3, h4⟩ := ixN_seq e
    exact ⟨j, h1, h, h2, h3, h4⟩
theorem atI_nat {α : Type} {xs : List α} {j : Nat} {v : α} (h : xs[j]? = some v) : atI xs (j : Int) = some v := by
  have hj : j < xs.length := (List.getElem?_eq_some_iff.mp h).1
  have e : ixN xs.length (j : Int) = some j := by
    unfold ixN
    rw [if_pos (by omega), if_pos (by omega)]; simp
  unfold atI; rw [e]; exact h
def PlainIx (b : Expr) : Prop := ∀ o i, subscripted b false o i = operate [o, i] (getItem o i)
def IxR (X : Cx) (r : R2) : Prop :=
  ∀ (value slice : Expr) (pins : List (Addr × Obj)) (s : Shared) (σ : St) (H : Hp) (x y : V) (v u : Value) (Q : VK), Inv X pins σ H s → RelV x v → RelV y u → r x y H Q →
    subscripted slice false v u = operate [v, u] (getItem v u) → wpAny (model X.prog X.w) X.A (subscriptTail value slice v u) (EP X pins σ Q) X.xe s
def MtR (X : Cx) (id : String) (r : V → List V → Hp → VK → Prop) : Prop :=
  ∀ (pins : List (Addr × Obj)) (s : Shared) (σ : St) (H : Hp) (x : V) (xs : List V) (v : Value) (us : List Value) (Q : VK), Inv X pins σ H s → RelV x v → Vals xs us → r x xs H Q →
    wpAny (model X.prog X.w) X.A (call (.builtin id) (v :: us)) (EP X pins σ Q) X.xe s
section
variable {X : Cx} {a b : Expr} {ta tb : TE} {pos : Pos}
theorem pe_ix {r : R2} (hr : IxR X r) (ha : PE X a ta) (hb : PE X b tb) (hs : PlainIx b) : PE X (.Subscript a b pos) (tOp r ta tb) := by
  intro pins s σ H Q I h
  exact Subscript_ (binT ha hb I h fun v u s2 x y H2 I2 rx ry q => hr a b pins s2 σ H2 x y v u Q I2 rx ry q (hs _ _))

def rIxL (K : PySem.W.Frag) : R2 := fun x y H Q => ∃ p xs i v, x = .ref p ∧ y = .int i ∧ SqL K H p xs ∧ atI xs i = some v ∧ Q v H
def rIxT (K : PySem.W.Frag) : R2 := fun x y H Q => ∃ p xs i v, x = .ref p ∧ y = .int i ∧ SqT K H p xs ∧ atI xs i = some v ∧ Q v H
def rIxS : R2 := fun x y H Q => ∃ z i c, x = .str z ∧ y = .int i ∧ z.length ≤ sizeLine ∧ atI z.cps.toList i = some c ∧ Q (.str ⟨#[c]⟩) H
theorem ix_list : IxR X (rIxL X.K) := by
  intro value slice pins s σ H x y v u Q I rx ry h hs
  obtain ⟨p, xs, i, z, rfl, rfl, hq, he, q⟩ := h
  cases rx
  obtain ⟨t, rfl⟩ := ry
  obtain ⟨its, r, pl, hz⟩ := I.list hq
  obtain ⟨j, h1, h2, h3, h4, h5⟩ := atI_get he
  obtain ⟨w, ew, rw'⟩ := r.get h2
  have hl := r.length
  have hn := line63
  have fin : EP X pins σ Q w s := ⟨z, H, I, rw', q⟩
  by_cases h0 : 0 ≤ i
  · have hj : i.toNat = j := by
      rw [seqIndex_of h0 h5] at h1
      exact Option.some.inj h1
    exact item_listR pl.isList h0 (by omega) (by rw [hj]; simpa using ew) fin hs
  · have hj : (i + (its.toArray.size : Int)).toNat = j := by
      rw [seqIndex_neg (by omega) h4] at h1
      rw [List.size_toArray, ← hl]
      exact Option.some.inj h1
    exact subscriptTail_builtinR (x := w) pl.isList.typeIs slot_list_getitem.lookup
      (wpAny_getItem_list_neg (Q := fun r s' => r = w ∧ EP X pins σ Q r s') pl.isList (by omega) (by rw [List.size_toArray] <;> omega) (by omega) (by rw [hj]; simpa using ew) ⟨rfl, fin⟩) hs
theorem ix_tup : IxR X (rIxT X.K) := by
  intro value slice pins s σ H x y v u Q I rx ry h hs
  obtain ⟨p, xs, i, z, rfl, rfl, hq, he, q⟩ := h
  cases rx
  obtain ⟨t, rfl⟩ := ry
  obtain ⟨its, r, pl, hz⟩ := I.tuple hq
  obtain ⟨j, h1, h2, h3, h4, h5⟩ := atI_get he
  obtain ⟨w, ew, rw'⟩ := r.get h2
  have hl := r.length
  have hn := line63
  have fin : EP X pins σ Q w s := ⟨z, H, I, rw', q⟩
  exact subscriptTail_builtinR (x := w) pl.typeIs slot_tuple_getitem.lookup
    (getItem_tuple (j := j) (Q := fun r s' => r = w ∧ EP X pins σ Q r s') pl (by omega) (by omega) (by rw [List.size_toArray, ← hl]; exact h1) (by simpa using ew) ⟨rfl, fin⟩) hs
theorem ix_str : IxR X rIxS := by
  intro value slice pins s σ H x y v u Q I rx ry h hs
  obtain ⟨z, i, c, rfl, rfl, hz, he, q⟩ := h
  obtain ⟨t, rfl⟩ := rx
  obtain ⟨t', rfl⟩ := ry
  obtain ⟨j, h1, h2, h3, h4, h5⟩ := atI_get he
  have hl : z.cps.toList.length = z.length := by simp [Str.length]
  rw [hl] at h1 h4 h5
  have hn := line63
  exact tail_any (typeIs_str s z t) slot_str_getitem.lookup (getItem_str (c := c) (by
    have e1 : decide (i < -(2 ^ 63 : Int)) = false := decide_eq_false (by omega)
    have e2 : decide (i ≥ 2 ^ 63) = false := decide_eq_false (by omega)
    rw [e1, e2, Bool.or_false]) (by rw [h1]; simpa using h2) ⟨.str ⟨#[c]⟩, H, I.tok _, ⟨_, rfl⟩, q⟩) hs
def rIx (K : PySem.W.Frag) : R2 := fun x y H Q => rIxL K x y H Q ∨ rIxT K x y H Q ∨ rIxS x y H Q
def rSetL : V → V → V → Hp → (Hp → Prop) → Prop := fun o i v H Q => ∃ p xs k j, o = .ref p ∧ i = .int k ∧ H p = some (.lst xs) ∧ ixN xs.length k = some j ∧ Q (upd H p (.lst (xs.set j v)))
theorem slice_bounds (lo hi : Option Int) (n : Nat) : (sliceBounds lo hi none n).1 = ((HT.sIx n 0 lo : Nat) : Int) ∧ (sliceBounds lo hi none n).2.1 = ((HT.sIx n n hi : Nat) : Int) ∧ (sliceBounds lo hi none n).2.2 = 1 := by
  refine ⟨?_, ?_, rfl⟩
  · cases lo with
    | none => simp [sliceBounds, HT.sIx]
    | some i =>
      simp only [sliceBounds, HT.sIx, Option.getD_none, show (1 : Int) > 0 by decide, if_true]
      by_cases h : i < 0
      · simp only [h, if_true] <;> omega
      · simp only [h, if_false] <;> omega
  · cases hi with
    | none => simp [sliceBounds, HT.sIx]
    | some i =>
      simp only [sliceBounds, HT.sIx, Option.getD_none, show (1 : Int) > 0 by decide, if_true]
      by_cases h : i < 0
      · simp only [h, if_true] <;> omega
      · simp only [h, if_false] <;> omega
theorem slicePick_cut (its : List Value) (lo hi : Option Int) : slicePick its.toArray lo hi none = ((its.drop (HT.sIx its.length 0 lo)).take (HT.sIx its.length its.length hi - HT.sIx its.length 0 lo)).toArray := by
  obtain ⟨h1, h2, h3⟩ := slice_bounds lo hi its.toArray.size
  unfold slicePick
  rw [h1, h2, h3]
  simp only [sliceRange_one, pick_run, List.size_toArray] <;> rfl
def rSlL (K : PySem.W.Frag) : V → Option Int → Option Int → Hp → VK → Prop := fun x lo hi H Q => ∃ a xs, x = .ref a ∧ SqL K H a xs ∧ ∀ p, H p = none → Q (.ref p) (upd H p (.lst (cutV xs lo hi)))
theorem sl_list : SlR X (rSlL X.K) := by
  intro pins s σ H x v vl vu lo hi sl Q I rx hs pl pu h
  obtain ⟨a, xs, rfl, hx, q⟩ := h
  cases rx
  obtain ⟨its, r, ht, hz⟩ := I.list hx
  have hlen := r.length
  refine ⟨"list", _, slot_list_getitem.lookup, ht.isList.typeIs, ?_⟩
  refine wpAny_getItem_list_slice ht.isList hs pl pu .none (by simp) ?_ (by rw [List.size_toArray] <;> omega)
  rw [slicePick_cut, ← hlen]
  refine ⟨.ref s.heap.objs.size, _, I.laid (t' := s.toks) (o := .lst (cutV xs lo hi)) (fun b ob q => Heap.get?_push_of_some _ q) (Nat.le_refl _) ?_, rfl, q _ (I.hok.fresh (Nat.le_refl _))⟩
  exact ⟨Nat.le_trans (cutV_length xs lo hi) hz, _, 0, (r.drop (HT.sIx xs.length 0 lo)).take (HT.sIx xs.length xs.length hi - HT.sIx xs.length 0 lo), Heap.get?_push_size _ rfl⟩

def flatV : V → Bool
  | .non => true
  | .bl _ => true
  | .int _ => true
  | .str _ => true
  | _ => false
def eqV : V → V → Bool
  | .non, .non => true
  | .bl a, .bl b => a == b
  | .bl a, .int b => (if a then 1 else 0) == b
  | .int a, .bl b => a == (if b then 1 else 0)
  | .int a, .int b => a == b
  | .str a, .str b => a == b
  | _, _ => false
theorem eqAt_V {A : Around} {s : Shared} {y x : V} {u v : Value} (ry : RelV y u) (rx : RelV x v) (fy : flatV y = true) (fx : flatV x = true) : SeqAt.EqAt A s u v (eqV y x) := by
  cases y with
  | non =>
    cases ry
    cases x with
    | non => cases rx; exact SeqAt.EqAt.same _
    | bl b => cases rx; exact SeqAt.EqAt.none_bool b
    | int b => obtain ⟨t, rfl⟩ := rx; exact SeqAt.EqAt.none_int b t
    | str b => obtain ⟨t, rfl⟩ := rx; exact SeqAt.EqAt.none_str b t
    | _ => exact absurd (show false = true from fx) Bool.false_ne_true
  | bl a =>
    cases ry
    cases x with
    | non => cases rx; exact SeqAt.EqAt.bool_none a
    | bl b => cases rx; exact SeqAt.EqAt.bool_bool a b
    | int b => obtain ⟨t, rfl⟩ := rx; exact SeqAt.EqAt.bool_int a b t
    | str b => obtain ⟨t, rfl⟩ := rx; exact SeqAt.EqAt.bool_str a b t
    | _ => exact absurd (show false = true from fx) Bool.false_ne_true
  | int a =>
    obtain ⟨t', rfl⟩ := ry
    cases x with
    | non => cases rx; exact SeqAt.EqAt.int_none a t'
    | bl b => cases rx; exact SeqAt.EqAt.int_bool a t' b
    | int b => obtain ⟨t, rfl⟩ := rx; exact SeqAt.EqAt.int_int a t' b t
    | str b => obtain ⟨t, rfl⟩ := rx; exact SeqAt.EqAt.int_str a t' b t
    | _ => exact absurd (show false = true from fx) Bool.false_ne_true
  | str a =>
    obtain ⟨t', rfl⟩ := ry
    cases x with
    | non => cases rx; exact SeqAt.EqAt.str_none a t'
    | bl b => cases rx; exact SeqAt.EqAt.str_bool a t' b
    | int b => obtain ⟨t, rfl⟩ := rx; exact SeqAt.EqAt.str_int a t' b t
    | str b => obtain ⟨t, rfl⟩ := rx; exact SeqAt.EqAt.str_str a t' b t
    | _ => exact absurd (show false = true from fx) Bool.false_ne_true
  | _ => exact absurd (show false = true from fy) Bool.false_ne_true
def eqU (x : V) (u : Value) : Bool := match u with
  | .none => eqV .non x
  | .bool b => eqV (.bl b) x
  | .int i _ => eqV (.int i) x
  | .str z _ => eqV (.str z) x
  | _ => false
theorem eqU_of {x y : V} {u : Value} (r : RelV y u) (f : flatV y = true) : eqU x u = eqV y x := by
  cases y with
  | non => cases r; rfl
  | bl b => cases r; rfl
  | int i => obtain ⟨t, rfl⟩ := r; rfl
  | str z => obtain ⟨t, rfl⟩ := r; rfl
  | _ => exact absurd (show false = true from f) Bool.false_ne_true
theorem any_eqU {x : V} : ∀ {xs : List V} {us : List Value}, Vals xs us → xs.all flatV = true → us.any (eqU x) = xs.any fun y => eqV y x
  | _, _, .nil, _ => rfl
  | y :: xs, u :: us, .cons r t, f => by
    rw [List.all_cons, Bool.and_eq_true] at f
    rw [List.any_cons, List.any_cons, eqU_of r f.1, any_eqU t f.2]
theorem mem_eqAt {A : Around} {s : Shared} {x : V} {v : Value} (rx : RelV x v) (fx : flatV x = true) : ∀ {xs : List V} {us : List Value}, Vals xs us → xs.all flatV = true → ∀ u ∈ us, SeqAt.EqAt A s u v (eqU x u)
  | _, _, .nil, _ => fun u hu => by cases hu
  | y :: xs, u :: us, .cons r t, f => fun u' hu => by
    rw [List.all_cons, Bool.and_eq_true] at f
    rcases List.mem_cons.mp hu with rfl | hu
    · rw [eqU_of r f.1]; exact eqAt_V r rx f.1 fx
    · exact mem_eqAt rx fx t f.2 u' hu
def inV (x : V) (xs : List V) : Bool := xs.any fun y => eqV y x
def rIn (K : PySem.W.Frag) (neg : Bool) : R2 := fun x y H Q => ∃ p xs, y = .ref p ∧ (SqL K H p xs ∨ SqT K H p xs) ∧ flatV x = true ∧ xs.all flatV = true ∧ Q (.bl (if neg then !inV x xs else inV x xs)) H
theorem op_in_seq : OpR X (compareOp .In) (rIn X.K false) := by
  intro pins s σ H x y v u Q I rx ry h
  obtain ⟨p, xs, rfl, hq, fx, fs, q⟩ := h
  cases ry
  rcases hq with hq | hq
  · obtain ⟨its, r, pl, hz⟩ := I.list hq
    refine SeqAt.in_listAt (eqU x) pl.isList (fun w hw => mem_eqAt rx fx r fs w (by simpa using hw)) ⟨.bl _, H, I, rfl, ?_⟩
    rw [show its.toArray.any (eqU x) = its.any (eqU x) by simp, any_eqU r fs]
    exact q
  · obtain ⟨its, r, pl, hz⟩ := I.tuple hq
    refine SeqAt.in_tupleAt (eqU x) pl (fun w hw => mem_eqAt rx fx r fs w (by simpa using hw)) ⟨.bl _, H, I, rfl, ?_⟩
    rw [show its.toArray.any (eqU x) = its.any (eqU x) by simp, any_eqU r fs]
    exact q
theorem op_notIn_seq : OpR X (compareOp .NotIn) (rIn X.K true) := by
  intro pins s σ H x y v u Q I rx ry h
  obtain ⟨p, xs, rfl, hq, fx, fs, q⟩ := h
  cases ry
  rcases hq with hq | hq
  · obtain ⟨its, r, pl, hz⟩ := I.list hq
    refine SeqAt.notIn_listAt (eqU x) pl.isList (fun w hw => mem_eqAt rx fx r fs w (by simpa using hw)) ⟨.bl _, H, I, rfl, ?_⟩
    rw [show its.toArray.any (eqU x) = its.any (eqU x) by simp, any_eqU r fs]
    exact q
  · obtain ⟨its, r, pl, hz⟩ := I.tuple hq
    refine SeqAt.notIn_tupleAt (eqU x) pl (fun w hw => mem_eqAt rx fx r fs w (by simpa using hw)) ⟨.bl _, H, I, rfl, ?_⟩
    rw [show its.toArray.any (eqU x) = its.any (eqU x) by simp, any_eqU r fs]
    exact q
theorem call_len_seq : CallR X (.builtin "len") (fun xs H Q => ∃ p ys, xs = [.ref p] ∧ (SqL X.K H p ys ∨ SqT X.K H p ys) ∧ Q (.int ys.length) H) := by
  intro pins s σ H xs us Q I r h
  obtain ⟨p, ys, rfl, hq, q⟩ := h
  obtain ⟨u, rfl, rx⟩ := vals1 r
  cases rx
  have hn := line63
  rcases hq with hq | hq
  · obtain ⟨its, r', pl, hz⟩ := I.list hq
    have hlen := r'.length
    exact Calls.call_len_list pl.isList (by simp only [List.size_toArray] <;> omega) ⟨.int ys.length, H, I.tok _, ⟨s.toks + 1, by rw [List.size_toArray, hlen]⟩, q⟩
  · obtain ⟨its, r', pl, hz⟩ := I.tuple hq
    have hlen := r'.length
    exact len_tuple pl (by simp only [List.size_toArray] <;> omega) ⟨.int ys.length, H, I.tok _, ⟨s.toks + 1, by rw [List.size_toArray, hlen]⟩, q⟩
theorem call_len_str : CallR X (.builtin "len") (fun xs H Q => ∃ z, xs = [.str z] ∧ z.length ≤ sizeLine ∧ Q (.int z.length) H) := by
  intro pins s σ H xs us Q I r h
  obtain ⟨z, rfl, hz, q⟩ := h
  obtain ⟨u, rfl, t, rfl⟩ := vals1 r
  have hn := line63
  exact len_str (by omega) ⟨.int z.length, H, I.tok _, ⟨_, rfl⟩, q⟩
theorem call_list_of : CallR X (.type "list") (fun xs H Q => ∃ p ys, xs = [.ref p] ∧ (SqL X.K H p ys ∨ SqT X.K H p ys) ∧ ∀ l, H l = none → Q (.ref l) (upd H l (.lst ys))) := by
  intro pins s σ H xs us Q I r h
  obtain ⟨p, ys, rfl, hq, q⟩ := h
  obtain ⟨u, rfl, rx⟩ := vals1 r
  cases rx
  have fin : ∀ (its : List Value), Vals ys its → ys.length ≤ sizeLine → ∀ (h' : Heap) (c' : Nat), (∀ b o', s.heap.get? b = some o' → h'.get? b = some o') →
      h'.get? s.heap.objs.size = some { cls := .type "list", dict := none, data := .seq its.toArray c', slots := #[] } → EP X pins σ Q (.ref s.heap.objs.size) { s with heap := h' } := fun its r' hz h' c' kp e =>
    ⟨.ref s.heap.objs.size, _, I.laid (t' := s.toks) kp (Nat.le_refl _) (show ObjOk X.prog X.w _ h' _ (.lst ys) from ⟨hz, its, c', r', e⟩), rfl, q _ (I.hok.fresh (Nat.le_refl _))⟩
  rcases hq with hq | hq
  · obtain ⟨its, r', pl, hz⟩ := I.list hq
    have hlen := r'.length
    obtain ⟨o, ho, hc, n, hd⟩ := pl.isList
    exact call_list_seq p (.inl rfl) ho hc hd (fun h' c' kp e => fin its r' hz h' c' kp e) (by simp only [List.size_toArray] <;> omega)
  · obtain ⟨its, r', pl, hz⟩ := I.tuple hq
    have hlen := r'.length
    obtain ⟨o, ho, hc, n, hd⟩ := pl
    exact call_list_seq p (.inr rfl) ho hc hd (fun h' c' kp e => fin its r' hz h' c' kp e) (by simp only [List.size_toArray] <;> omega)
def tyV (K : PySem.W.Frag) (T : String) (x : V) (H : Hp) : Prop := match x with
  | .str _ => T = "str"
  | .int _ => T = "int"
  | .ref p => (T = "list" ∧ ∃ xs, SqL K H p xs) ∨ (T = "tuple" ∧ ∃ o, K.lookup p = some o ∧ o.cls = .type "tuple" ∧ o.dict = none) ∨
      (T = "dict" ∧ ((∃ kvs, H p = some (.dK kvs)) ∨ ∃ kvs, H p = some (.dT kvs))) ∨ (T = "set" ∧ ∃ S n, H p = some (.set S n))
  | _ => False
theorem tyV_is {pins : List (Addr × Obj)} {σ : St} {H : Hp} {s : Shared} {T : String} {x : V} {v : Value} (I : Inv X pins σ H s) (r : RelV x v) (ty : tyV X.K T x H) :
    s.TypeIs v T ∧ ∀ a, v = .ref a → ∃ ob, s.heap.get? a = some ob ∧ ob.dict = none := by
  cases x with
  | str z =>
    obtain ⟨t, rfl⟩ := r
    cases (show T = "str" from ty)
    exact ⟨typeIs_str s z t, fun _ e => nomatch e⟩
  | int i =>
    obtain ⟨t, rfl⟩ := r
    cases (show T = "int" from ty)
    exact ⟨typeIs_int s i t, fun _ e => nomatch e⟩
  | ref p =>
    cases r
    rcases ty with ⟨rfl, xs, hq⟩ | ⟨rfl, o, hk, hc, hd⟩ | ⟨rfl, hk⟩ | ⟨rfl, S, n, hk⟩
    · obtain ⟨its, _, pl, _⟩ := I.list hq
      refine ⟨pl.isList.typeIs, fun a e => ?_⟩
      cases e
      obtain ⟨o, n, e, c, hd, _⟩ := pl
      exact ⟨o, e, hd⟩
    · refine ⟨⟨o, I.kIn p o hk, hc⟩, fun a e => ?_⟩
      cases e
      exact ⟨o, I.kIn _ o hk, hd⟩
    · have z : ∃ o, s.heap.get? p = some o ∧ o.ExactDict := by
        rcases hk with ⟨kvs, hk⟩ | ⟨kvs, hk⟩
        · obtain ⟨_, _, _, _, o, _, _, e, ex, _⟩ := I.hok p _ hk
          exact ⟨o, e, ex⟩
        · obtain ⟨_, _, _, _, o, _, _, e, ex, _⟩ := I.hok p _ hk
          exact ⟨o, e, ex⟩
      obtain ⟨o, e, ex⟩ := z
      refine ⟨⟨o, e, ex.1⟩, fun a e2 => ?_⟩
      cases e2
      exact ⟨o, e, ex.2.1⟩
    · obtain ⟨o, _, _, _, e, ex, _⟩ := I.hok p _ hk
      refine ⟨⟨o, e, ex.1⟩, fun a e2 => ?_⟩
      cases e2
      exact ⟨o, e, ex.2.1⟩
  | _ => exact False.elim ty
def tBM0 (K : PySem.W.Frag) (T : String) (r : V → List V → Hp → VK → Prop) (to : TE) : TE := fun σ H Q => to σ H fun x H1 => tyV K T x H1 ∧ r x [] H1 Q
def tBM (K : PySem.W.Frag) (T : String) (r : V → List V → Hp → VK → Prop) (to : TE) (t : TA) : TE := fun σ H Q => to σ H fun x H1 => tyV K T x H1 ∧ t σ H1 fun xs H2 => r x xs H2 Q
variable {o e : Expr} {es : List Expr} {to : TE} {t : TA} {name : Str} {apos cpos : Pos} {T id : String} {r : V → List V → Hp → VK → Prop}
theorem pe_bm (pa : PlainAttrs T) (slot : Slot T name id) (hty : typeOf (.builtin id) = pure (.type "method_descriptor")) (hm : MtR X id r) (ho : PE X o to) (ha : PA X (e :: es) t)
    (hbase : attributeBase o name X.env (eval o X.env) = eval o X.env := by rfl)
    (hfew : ((backTo cpos (starEach (e :: es) X.env)).all (fun x => !x.1) && (backToKw cpos (keywordEach [] X.env)).all (fun x => x.1.isSome)
      && decide ((e :: es).length + ([] : List Keyword).length + (if ([] : List Keyword).isEmpty then 0 else 1) < 30)) = true := by rfl)
    (hline : (apos.endLine == cpos.line) = true := by rfl) (hs : starEach (e :: es) X.env = (false, eval e X.env) :: starEach es X.env := by rfl) (hplain : (backTo cpos (starEach es X.env)).any (·.1) = false := by rfl) :
    PE X (.Call (.Attribute o name apos) (e :: es) [] cpos) (tBM X.K T r to t) := by
  intro pins s σ H Q I h
  refine wpAny_Call_method_late hbase hfew hline rfl (thn (ho pins s σ H _ I h) fun v s1 ⟨x, H1, I1, r1, ty, q1⟩ => ?_)
  obtain ⟨h1, h2⟩ := tyV_is I1 r1 ty
  refine ⟨T, id, pa, slot, hty, h1, h2, ?_⟩
  have hA := ha cpos pins s1 σ H1 _ I1 q1
  rw [hs] at hA ⊢
  refine Calls.callWith_builtin (by show (false || (backTo cpos (starEach es X.env)).any (·.1)) = false; rw [hplain] <;> rfl) (Calls.evalArgs_plain ?_)
  exact thn hA fun us s2 ⟨vs, H2, I2, r2, q2⟩ => hm pins s2 σ H2 x vs v us Q I2 r1 r2 q2
end
end L2

namespace L2
open PySem PySem.Spec PyProof.Rows

def MtM (X : Cx) (id : String) (r : V → List V → Hp → VK → Prop) : Prop :=
  ∀ (pins : List (Addr × Obj)) (s : Shared) (σ : St) (H : Hp) (x : V) (xs : List V) (v : Value) (us : List Value) (Q : VK), Inv X pins σ H s → RelV x v → Vals xs us → r x xs H Q →
    wpAny (model X.prog X.w) X.A (call (.builtin id) (v :: us)) (EP X pins σ Q) X.xe s

theorem Vals.one : ∀ {x : V} {us : List Value}, Vals [x] us → ∃ u, us = [u] ∧ RelV x u
  | _, _, .cons r .nil => ⟨_, rfl, r⟩
theorem Vals.reverse {xs : List V} {us : List Value} (h : Vals xs us) : Vals xs.reverse us.reverse := by
  induction h with
  | nil => exact .nil
  | cons r t ih => rw [List.reverse_cons, List.reverse_cons]; exact Vals.append ih (.cons r .nil)
section
variable {X : Cx} {pins : List (Addr × Obj)} {σ : St} {H : Hp} {s : Shared} {l b : Addr} {xs ys zs : List V}

theorem Inv.lset {its its' : List Value} {n : Nat} {f : Array Value → Array Value} {t' : Nat} (I : Inv X pins σ H s) (hH : H l = some (.lst xs))
    (e : s.heap.get? l = some { cls := .type "list", data := .seq its.toArray n }) (hf : f its.toArray = its'.toArray) (hv : Vals ys its') (hz : ys.length ≤ sizeLine) :
    Inv X pins σ (upd H l (.lst ys)) { s with heap := s.heap.update l (Obj.mapSeq f), toks := t' } := by
  have q := PySem.IsL.update e f
  rw [hf] at q
  refine I.write (x := l) (e := l) (by rw [hH]; exact trivial) (.inl rfl) (fun b' u hb hu => (Heap.get?_update_other s.heap (Obj.mapSeq f) (Ne.symm hb)).trans hu) ⟨_, q⟩ ?_
  exact ⟨hz, its', _, hv, q⟩
theorem Inv.lnew {its : List Value} {t' : Nat} (I : Inv X pins σ H s) (hv : Vals ys its) (hz : ys.length ≤ sizeLine) :
    Inv X pins σ (upd H s.heap.objs.size (.lst ys)) { s with heap := s.heap.push { cls := .type "list", data := .seq its.toArray }, toks := t' } :=
  I.laid (fun _ _ q => Heap.get?_push_of_some _ q) (Nat.le_refl _) ⟨hz, its, 0, hv, Heap.get?_push_size _ rfl⟩
theorem Inv.fresh (I : Inv X pins σ H s) : H s.heap.objs.size = none := I.hok.fresh (Nat.le_refl _)
theorem Inv.lstM (I : Inv X pins σ H s) (hH : H l = some (.lst xs)) : xs.length ≤ sizeLine ∧ ∃ (its : List Value) (n : Nat), Vals xs its ∧ xs.length = its.length ∧ s.heap.get? l = some { cls := .type "list", data := .seq its.toArray n } := by
  obtain ⟨z, its, n, r, e⟩ := I.hok l _ hH
  exact ⟨z, its, n, r, r.length, e⟩

end

section
variable {X : Cx}

def rAppend : V → List V → Hp → VK → Prop := fun x vs H Q => ∃ l xs y, x = .ref l ∧ vs = [y] ∧ H l = some (.lst xs) ∧ xs.length < sizeLine ∧ Q .non (upd H l (.lst (xs ++ [y])))
theorem mt_append : MtM X "list.append" rAppend := by
  intro pins s σ H x vs v us Q I rx rv h
  obtain ⟨l, xs, y, rfl, rfl, hH, hz, q⟩ := h
  cases rx
  obtain ⟨u, rfl, ru⟩ := rv.one
  obtain ⟨z, its, n, r, hl, e⟩ := I.lstM hH
  refine call_meets F.slot_list_append ⟨_, e, rfl⟩ F.entry_list_append (F.args_list_append_2 _ _) (PySem.list_append l its.toArray n u (by rw [List.size_toArray]; omega)) ⟨e, ?_⟩
  refine ⟨.non, _, I.lset (its' := its ++ [u]) hH e (by simp) (r.append (.cons ru .nil)) ?_, rfl, q⟩
  rw [List.length_append, List.length_singleton]
  omega

def rExtend : V → List V → Hp → VK → Prop := fun x vs H Q => ∃ l b xs zs, x = .ref l ∧ vs = [.ref b] ∧ H l = some (.lst xs) ∧ H b = some (.lst zs) ∧ xs.length + zs.length ≤ sizeLine ∧ Q .non (upd H l (.lst (xs ++ zs)))
def rPop : V → List V → Hp → VK → Prop := fun x vs H Q => ∃ l xs y, x = .ref l ∧ vs = [] ∧ H l = some (.lst xs) ∧ xs[xs.length - 1]? = some y ∧ Q y (upd H l (.lst xs.dropLast))
def rPopAt : V → List V → Hp → VK → Prop := fun x vs H Q => ∃ l xs i k y, x = .ref l ∧ vs = [.int i] ∧ H l = some (.lst xs) ∧ -(2 ^ 63) ≤ i ∧ i < 2 ^ 63 ∧ seqIndex? i xs.length = some k ∧ xs[k]? = some y ∧ Q y (upd H l (.lst (xs.eraseIdx k)))
def rReverse : V → List V → Hp → VK → Prop := fun x vs H Q => ∃ l xs, x = .ref l ∧ vs = [] ∧ H l = some (.lst xs) ∧ Q .non (upd H l (.lst xs.reverse))
def rClear : V → List V → Hp → VK → Prop := fun x vs H Q => ∃ l xs, x = .ref l ∧ vs = [] ∧ H l = some (.lst xs) ∧ Q .non (upd H l (.lst []))
def rCat : R2 := fun x y H Q => ∃ l b xs zs, x = .ref l ∧ y = .ref b ∧ H l = some (.lst xs) ∧ H b = some (.lst zs) ∧ xs.length + zs.length ≤ sizeLine ∧ ∀ p, H p = none → Q (.ref p) (upd H p (.lst (xs ++ zs)))
def rRep : R2 := fun x y H Q => ∃ l k xs, x = .ref l ∧ y = .int k ∧ H l = some (.lst xs) ∧ -(2 ^ 63) ≤ k ∧ k < 2 ^ 63 ∧ xs.length * k.toNat ≤ sizeLine ∧
  ∀ p, H p = none → Q (.ref p) (upd H p (.lst (List.replicate k.toNat xs).flatten))
end

section
variable {prog : Program} {w : World} {A : Around} {E : Value → Shared → Prop} {s : Shared}
end

section
variable {X : Cx}
end
end L2

namespace L2
open PySem PySem.Spec PyProof.Rows

section
variable {κ : Type} [DecidableEq κ]
def valV (kvs : List (κ × V)) (k : κ) : Option V := (kvs.find? fun kv => decide (kv.1 = k)).map (·.2)
def putK (kvs : List (κ × V)) (k : κ) (v : V) : List (κ × V) :=
  if (kvs.any fun kv => decide (kv.1 = k)) = true then kvs.map (fun kv => if kv.1 = k then (kv.1, v) else kv) else kvs ++ [(k, v)]
def dropK (kvs : List (κ × V)) (k : κ) : List (κ × V) := kvs.filter fun kv => decide (kv.1 ≠ k)

end


abbrev KT (H : Hp) : List (List Key × V) → List (List Key × Addr × Value) → Prop := Paired fun p q => p.1 = q.1 ∧ H q.2.1 = some (.tup (p.1.map kV)) ∧ RelV p.2 q.2.2
section
variable {P : Program} {w : World} {H : Hp} {h : Heap} {a : Addr}
end

def DGet (H : Hp) (a : Addr) (y : V) (r : Option V) : Prop :=
  (∃ kvs k, Rd H a (.dK kvs) ∧ y = kV k ∧ r = valV kvs k) ∨ ∃ kvs k b, Rd H a (.dT kvs) ∧ y = .ref b ∧ H b = some (.tup (k.map kV)) ∧ r = valV kvs k
def DPut (H : Hp) (a : Addr) (y v : V) (H' : Hp) : Prop :=
  (∃ kvs k, H a = some (.dK kvs) ∧ y = kV k ∧ kvs.length < sizeLine ∧ H' = upd H a (.dK (putK kvs k v))) ∨
  ∃ kvs k b, H a = some (.dT kvs) ∧ y = .ref b ∧ H b = some (.tup (k.map kV)) ∧ kvs.length < sizeLine ∧ H' = upd H a (.dT (putK kvs k v))
section
variable {X : Cx} {pins : List (Addr × Obj)} {σ : St} {H : Hp} {s : Shared} {a : Addr} {y v : V} {u r : Value} {o : Option V} {A : Around} {E : Value → Shared → Prop}

end

section
variable {X : Cx} {pins : List (Addr × Obj)} {σ : St} {H : Hp} {s : Shared} {a : Addr} {kvs : List (Key × V)} {k : Key} {u : Value} {A : Around} {E : Value → Shared → Prop}
end


def NoSl (i : Expr) : Prop := ∀ ov iv, subscripted i false ov iv = operate [ov, iv] (getItem ov iv)
def tDGet (td ty : TE) : TE := fun σ H Q => td σ H fun x H1 => ty σ H1 fun y H2 => ∃ a v, x = .ref a ∧ DGet H2 a y (some v) ∧ Q v H2
def tDIn (ty td : TE) : TE := fun σ H Q => ty σ H fun y H1 => td σ H1 fun x H2 => ∃ a o, x = .ref a ∧ DGet H2 a y o ∧ Q (.bl o.isSome) H2
def tDNotIn (ty td : TE) : TE := fun σ H Q => ty σ H fun y H1 => td σ H1 fun x H2 => ∃ a o, x = .ref a ∧ DGet H2 a y o ∧ Q (.bl (!o.isSome)) H2
def sDPut (td ty tv : TE) : TS := fun D σ H => tv σ H fun v H1 => td σ H1 fun x H2 => ty σ H2 fun y H3 => ∃ a H4, x = .ref a ∧ DPut H3 a y v H4 ∧ D.nx σ H4
def sDAug (td ty tv : TE) (rd : V → V → Hp → VK → Prop) : TS := fun D σ H => td σ H fun x H1 => ty σ H1 fun y H2 => ∃ a v, x = .ref a ∧ DGet H2 a y (some v) ∧
  tv σ H2 fun y2 H3 => rd v y2 H3 fun z H4 => ∃ H5, DPut H4 a y z H5 ∧ D.nx σ H5
def sDDel (td ty : TE) : TS := fun D σ H => td σ H fun x H1 => ty σ H1 fun y H2 => ∃ a kvs k, x = .ref a ∧ H2 a = some (.dK kvs) ∧ y = kV k ∧ (valV kvs k).isSome = true ∧ D.nx σ (upd H2 a (.dK (dropK kvs k)))

section
variable {X : Cx} {o i e value : Expr} {pos pos' tpos : Pos} {td ty tv : TE}
end


def tDNewK : TE := fun _ H Q => ∀ p, H p = none → Q (.ref p) (upd H p (.dK []))
def tDNewT : TE := fun _ H Q => ∀ p, H p = none → Q (.ref p) (upd H p (.dT []))
section
variable {X : Cx} {pos : Pos}
end

def tPairs : List (TE × TE) → St → Hp → (List (V × V) → Hp → Prop) → Prop
  | [], _, H, Q => Q [] H
  | (tk, tv) :: r, σ, H, Q => tk σ H fun x H1 => tv σ H1 fun y H2 => tPairs r σ H2 fun ps H3 => Q ((x, y) :: ps) H3
abbrev VV : List (V × V) → List (Value × Value) → Prop := Paired fun p q => RelV p.1 q.1 ∧ RelV p.2 q.2
def PPs (X : Cx) (pos : Pos) (keys : List (Option Expr)) (values : List Expr) (trs : List (TE × TE)) : Prop :=
  ∀ (pins : List (Addr × Obj)) (s : Shared) (σ : St) (H : Hp) (Q : List (V × V) → Hp → Prop), Inv X pins σ H s → tPairs trs σ H Q →
    wpAny (model X.prog X.w) X.A (evalPairs (pairTrees keys values X.env pos)) (fun vs s' => ∃ ps H', Inv X pins σ H' s' ∧ VV ps vs ∧ Q ps H') X.xe s
def mergeK (kvs more : List (Key × V)) : List (Key × V) := more.foldl (fun acc kv => putK acc kv.1 kv.2) kvs
def tDisp (trs : List (TE × TE)) : TE := fun σ H Q => ∀ p, H p = none → tPairs trs σ (upd H p (.dK [])) fun ps H2 => H2 p = some (.dK []) ∧ ∃ kvs : List (Key × V), ps = kvs.map (fun kv => (kV kv.1, kv.2)) ∧ kvs.length ≤ 15 ∧ Q (.ref p) (upd H2 p (.dK (mergeK [] kvs)))
structure M1 (X : Cx) (o : Expr) (m : Str) (apos : Pos) (e : Expr) (cpos : Pos) : Prop where
  base : attributeBase o m X.env (eval o X.env) = eval o X.env
  few : ((backTo cpos (starEach [e] X.env)).all (fun x => !x.1) && (backToKw cpos (keywordEach [] X.env)).all (fun x => x.1.isSome)
    && decide (([e] : List Expr).length + ([] : List Keyword).length + (if ([] : List Keyword).isEmpty then 0 else 1) < 30)) = true
  line : (apos.endLine == cpos.line) = true
  trees : backTo cpos (starEach [e] X.env) = [(false, eval e X.env)]
structure M2 (X : Cx) (o : Expr) (m : Str) (apos : Pos) (e f : Expr) (cpos : Pos) : Prop where
  base : attributeBase o m X.env (eval o X.env) = eval o X.env
  few : ((backTo cpos (starEach [e, f] X.env)).all (fun x => !x.1) && (backToKw cpos (keywordEach [] X.env)).all (fun x => x.1.isSome)
    && decide (([e, f] : List Expr).length + ([] : List Keyword).length + (if ([] : List Keyword).isEmpty then 0 else 1) < 30)) = true
  line : (apos.endLine == cpos.line) = true
  trees : backTo cpos (starEach [e, f] X.env) = [(false, eval e X.env), (false, eval f X.env)]

def IsD (H : Hp) (a : Addr) : Prop := (∃ kvs, Rd H a (.dK kvs)) ∨ ∃ kvs, Rd H a (.dT kvs)
section
variable {X : Cx} {pins : List (Addr × Obj)} {σ : St} {H : Hp} {s : Shared} {a : Addr} {y d : V} {u r : Value} {o : Option V} {A : Around} {E : Value → Shared → Prop}
end

def tDGet1 (td ty : TE) : TE := fun σ H Q => td σ H fun x H1 => ∃ a, x = .ref a ∧ IsD H1 a ∧ ty σ H1 fun y H2 => ∃ o, DGet H2 a y o ∧ Q (o.getD .non) H2
def tDGet2 (td ty tx : TE) : TE := fun σ H Q => td σ H fun x H1 => ∃ a, x = .ref a ∧ IsD H1 a ∧ ty σ H1 fun y H2 => tx σ H2 fun z H3 => ∃ o, DGet H3 a y o ∧ Q (o.getD z) H3
def tDPop1 (td ty : TE) : TE := fun σ H Q => td σ H fun x H1 => ∃ a, x = .ref a ∧ IsD H1 a ∧ ty σ H1 fun y H2 => ∃ kvs k v, H2 a = some (.dK kvs) ∧ y = kV k ∧ valV kvs k = some v ∧ Q v (upd H2 a (.dK (dropK kvs k)))
def tDPop2 (td ty tx : TE) : TE := fun σ H Q => td σ H fun x H1 => ∃ a, x = .ref a ∧ IsD H1 a ∧ ty σ H1 fun y H2 => tx σ H2 fun z H3 => ∃ kvs k, H3 a = some (.dK kvs) ∧ y = kV k ∧
  (∀ v, valV kvs k = some v → Q v (upd H3 a (.dK (dropK kvs k)))) ∧ (valV kvs k = none → Q z H3)
section
variable {X : Cx} {o e f : Expr} {apos cpos : Pos} {td ty tx : TE}
end

section
variable {X : Cx} {pins : List (Addr × Obj)} {σ : St} {H : Hp} {s : Shared} {a : Addr} {kvs : List (Key × V)} {A : Around} {E : Value → Shared → Prop}
end


section
variable {X : Cx} {pins : List (Addr × Obj)} {σ : St} {H : Hp} {s : Shared} {a : Addr} {y : V} {u : Value} {A : Around} {E : Value → Shared → Prop}
end
end L2

namespace Att
open PySem PySem.W PySem.Calls PyProof.Rows

theorem ints_of_wellAll {P : Params} {h : Heap} : ∀ (ns : List Int) (vs : List Value), WellAll P h vs (ns.map WData.int) → IntsAre vs ns := by
  intro ns
  induction ns with
  | nil =>
    intro vs w
    rw [List.map_nil] at w
    cases w
    exact .nil
  | cons n ns ih =>
    intro vs w
    rw [List.map_cons] at w
    cases w with
    | cons a b =>
      cases a
      exact .cons _ _ (ih _ b)

theorem script_of {l : OpenLaw} {n : Nat} (hn : l.most = some n) {P : Params} {h : Heap} {args : List WData} {vals : List Value}
    (hpre : l.row.toRowW.claim.pre args = true) (hwl : WellAll P h vals args) :
    ∃ a vs ns, vals = [Value.ref a] ∧ args = [WData.list (ns.map WData.int)] ∧ h.get? a = some { cls := .type "list", data := .seq vs.toArray } ∧ IntsAre vs ns ∧ ns.length ≤ n := by
  have hsh : WShape.hasAll [] args [.list .int] = true := (pre_splitW hpre).1
  have hc : l.pre.holds [] { args := args } = true := (pre_splitW hpre).2
  obtain ⟨d, r, rfl, h1, h2⟩ := hasAllW_cons hsh
  obtain rfl := hasAllW_nil h2
  obtain ⟨xs, rfl, h3⟩ := hasW_list h1
  obtain ⟨ns, rfl⟩ := items_int h3
  have hlen : ns.length ≤ n := by
    unfold OpenLaw.pre at hc
    have h4 : (WTm.not (.lt (.lit (.int (n : Int))) (.len (.arg 0)))).holds [] { args := [.list (ns.map .int)] } = true := by
      have h4 := (holds_andW hc).1
      rw [hn] at h4
      exact h4
    have h5 := condW_of h4 (w_not (w_lt w_lit (w_len_list (w_arg rfl))))
    rw [List.length_map] at h5
    refine Nat.le_of_not_lt fun q => ?_
    have q' : (n : Int) < ((ns.length : Nat) : Int) := by omega
    first
      | (rw [decide_eq_true q'] at h5; exact absurd h5 (by decide))
      | (simp at h5; omega)
  cases hwl with
  | cons w1 w2 =>
    cases w2
    cases w1 with
    | list ho hall => exact ⟨_, _, ns, rfl, rfl, ho, ints_of_wellAll ns _ hall, hlen⟩

theorem post_true (l : OpenLaw) (args : List WData) : l.row.toRowW.claim.post args (.bool true) args = true :=
  postW_of (r := l.row.toRowW) (X := (true == true))
    (show WShape.has [] (.bool true) .bool = true by first | rfl | decide | simp [WShape.has, WShape.arms, WShape.armsAll])
    (show (WTm.eq .res (.lit (.bool true))).value [] { args := args, res := some (.bool true), after := args } = some (.bool (true == true)) from w_eq_bool (w_res rfl) w_lit) rfl

theorem attach_call {l : OpenLaw} {n : Nat} {q : Program} {loose : List Str} {XP : (Str → Option Value) → Heap → Prop} {YP : World → Heap → Prop} {d : DefRec}
    (hn : l.most = some n) (hdf : d.params.defaults = [])
    (call : ∀ (w : World) (s₀ s₁ : Shared) (mg mb : Str → Option Value) (fa : Addr) (o : Obj) (pm cd doc : Value) (a : Addr) (vs : List Value) (ns : List Int),
      Ground q loose [] XP w s₀ mg mb s₁.heap → YP w s₁.heap →
      s₁.heap.get? fa = some o → o.data = .func (docDef d.name d.params d.body d.scope pm cd doc) → s₁.heap.CodeRec cd d.name → mg d.name = some (.ref fa) →
      s₁.heap.get? a = some { cls := .type "list", data := .seq vs.toArray } → IntsAre vs ns → ns.length ≤ n → s₁.gens = #[] →
      codeAny (model l.prog w) callerA (.call (.ref fa) ⟨[.ref a], []⟩) (fun r s' => r = .ok (.ret (.bool true)) ∧ OldK s₁.heap s'.heap ∧ s'.os = s₁.os ∧ AllBare s'.gens) s₁) :
    WalkO q loose XP YP l.row.toRowW d [] (fun f vs => PySem.call f vs) := by
  intro w s₀ s₁ mg mb G Y fa o pm cd doc dV kV ho hd hcd hD hmg hg args vals as hpre hlay hrd hwl hlo
  obtain rfl : dV = .none := Dflts.none hD hdf
  obtain rfl : kV = .none := Dflts.noKw hD
  obtain ⟨a, vs, ns, rfl, rfl, hobj, hints, hlen⟩ := script_of hn hpre hwl
  refine enter_call (codeAny_mono (call w s₀ s₁ mg mb fa o pm cd doc a vs ns G Y ho (fd_plain hd) hcd hmg hobj hints hlen hg) fun r s' hq => ?_)
  obtain ⟨rfl, h2, h3, h4⟩ := hq
  exact ⟨.inl ⟨.bool true, .bool true, [], rfl, fun _ => rfl, .bool true, post_true l _, fun _ => ⟨List.Pairwise.nil, fun _ hm => (nomatch hm)⟩⟩, h2, h3, h4⟩

section
variable {prog : Program} {w : World} {A : Around} {E : Value → Shared → Prop} {s : Shared} {K : Frag}

def noObjs (h : Heap) : Heap := { h with objs := #[] }
def ledger (h : Heap) (L d : Addr) : List (Addr × Obj) := (List.range h.objs.size).filterMap fun a => if a = L ∨ a = d then none else (h.get? a).map fun o => (a, o)
end
end Att

namespace L2
open PySem PySem.Spec PyProof.Rows

theorem vals_ints : ∀ {vs : List Value} {ns : List Int}, IntsAre vs ns → Vals (ns.map V.int) vs
  | _, _, .nil => .nil
  | _, _, .cons n t h => .cons ⟨t, rfl⟩ (vals_ints h)

def Only (H : Hp) : Prop := ∀ b, H b = none ∨ ∃ o xs, H b = some (.frz o (.lst xs))

theorem law_call {P : Program} {w : World} {K : PySem.W.Frag} {mg mb : Str → Option Value} {CX : CXT} {k : Nat} {fa a : Addr} {fd : FuncData} {x : Str} {sp : Sp} {s₁ : Shared} {vs : List Value} {ns : List Int}
    (KX : K.In s₁.heap) (hns : s₁.heap.Ns mainGlobals mg) (hb : s₁.heap.Ns builtinsNs mb) (hbb : ∀ x : Str, x ≠ "__name__" → mb x = bootBuiltins x) (hlim : s₁.heap.NoLimit) (hg : s₁.gens = #[])
    (ha : s₁.heap.get? a = some { cls := .type "list", data := .seq vs.toArray }) (hi : IntsAre vs ns) (hl : ns.length ≤ sizeLine) (hr : Room k callerA)
    (F : ∀ base : Heap, K.In base → base.Ns mainGlobals mg → FnOk P w K mg base CX k fa fd [x] sp) (hbind : ∀ (s : Shared) (u : Value), BindsTo s fd ⟨[u], []⟩ [(x, u)])
    (hsp : ∀ H : Hp, Only H → SqL K H a (ns.map V.int) → sp [.ref a] H (fun v _ => v = .bl true) fun _ _ _ => False)
    (hCX : ∀ H e s', CX [] H s₁ (fun _ _ _ => False) e s' → False) :
    codeAny (model P w) callerA (.call (.ref fa) ⟨[.ref a], []⟩) (fun r s' => r = .ok (.ret (.bool true)) ∧ OldK s₁.heap s'.heap ∧ s'.os = s₁.os ∧ AllBare s'.gens) s₁ := by
  have rv := vals_ints hi
  have lenV := hi.length
  -- from an abstract heap in which nothing but the script may be tracked
  have core : ∀ H : Hp, Only H → SqL K H a (ns.map V.int) → HOk P w H s₁.heap → (∀ b, H b ≠ none → b = a) → (H a ≠ none → K.lookup a = none) →
      codeAny (model P w) callerA (.call (.ref fa) ⟨[.ref a], []⟩) (fun r s' => r = .ok (.ret (.bool true)) ∧ OldK s₁.heap s'.heap ∧ s'.os = s₁.os ∧ AllBare s'.gens) s₁ := by
    intro H hO hS hok hA hK
    have base_of : ∀ {b : Addr} {o : Obj}, s₁.heap.get? b = some o → H b = none → (hidT s₁.heap H).get? b = some o := fun e n => hidT_get e n
    have noA : ∀ {b : Addr} {o : Obj} {es : Array DictEntry} {ep : Nat}, s₁.heap.get? b = some o → o.data = .dict es ep → H b = none := fun {b o es ep} e d => by
      cases q : H b with
      | none => rfl
      | some u =>
        have e' : b = a := hA b (by rw [q]; simp)
        subst e'
        rw [ha] at e; cases e
        have d' : Data.seq vs.toArray _ = Data.dict es ep := d
        cases d'
    have nsK : ∀ {b : Addr} {m : Str → Option Value}, s₁.heap.Ns b m → (hidT s₁.heap H).Ns b m := fun {b m} ⟨o, es, ep, e, d, r⟩ => ⟨o, es, ep, base_of e (noA e d), d, r⟩
    have hKb : K.In (hidT s₁.heap H) := fun b o e => base_of (KX b o e) (by
      cases q : H b with
      | none => rfl
      | some u =>
        have e' : b = a := hA b (by rw [q]; simp)
        subst e'
        rw [hK (by rw [q]; simp)] at e; cases e)
    have hM : Mod K mg (hidT s₁.heap H) := ⟨hKb, nsK hns, ⟨mb, nsK hb, hbb⟩, let ⟨mc, h1, h2⟩ := hlim; ⟨mc, nsK h1, h2⟩⟩
    have e0 : Env0 P w K mg (hidT s₁.heap H) callerA [] s₁ H := ⟨rfl, hM, fun b o e => of_hidT e, Nat.le_of_eq (hidT_size _ _), trivial, fun b hb => absurd (show b ∈ ([] : List Addr) from hb) (by simp), hok, .of_eq hg⟩
    refine codeAny_mono ((F _ hKb (nsK hns)).run callerA [] s₁ H ⟨[.ref a], []⟩ [.ref a] [.ref a] _ _ hr e0 (hbind s₁ (.ref a)) (.cons rfl .nil) (hsp H hO hS)) fun r s' h => ?_
    cases r with
    | error e => exact (hCX H e s' h).elim
    | ok fl =>
      cases fl with
      | next => exact False.elim h
      | brk => exact False.elim h
      | cont => exact False.elim h
      | ret u =>
        obtain ⟨v, H', os, bare, un, hok', r', q⟩ := h
        have q' : v = .bl true := q
        subst q'
        obtain rfl : u = Value.bool true := r'
        refine ⟨rfl, OldK.of_keep fun b o e => ?_, os, bare⟩
        cases q : H b with
        | none => exact un.keep b o e q (by intro z; exact absurd (show b ∈ ([] : List Addr) from z) (by simp)) (by simp)
        | some u =>
          rcases hO b with z | ⟨ob, xs, z⟩
          · rw [q] at z; cases z
          · have z2 := un.frzs b ob _ z
            obtain ⟨e1, _⟩ := hok b _ z
            obtain ⟨e2, _⟩ := hok' b _ z2
            rw [e] at e1; cases e1
            exact e2
  cases hk : K.lookup a with
  | some o =>
    -- the script is one of the module's own objects
    have e := KX a o hk
    rw [ha] at e
    cases e
    refine core (fun _ => none) (fun _ => .inl rfl) (.inr ⟨_, vs.toArray, _, hk, rfl, rfl, rfl, by rw [List.size_toArray, lenV]; exact hl, by simpa using rv⟩) (fun b u z => by have z' : (none : Option HO) = some u := z; cases z') (fun b z => absurd rfl z) fun z => absurd rfl z
  | none =>
    refine core (fun b => if b = a then some (.frz { cls := .type "list", data := .seq vs.toArray } (.lst (ns.map V.int))) else none) (fun b => ?_) (.inl (.inr ⟨{ cls := .type "list", data := .seq vs.toArray }, if_pos rfl⟩)) (fun b u z => ?_) (fun b z => ?_) fun _ => hk
    · by_cases hb : b = a
      · exact .inr ⟨_, _, if_pos hb⟩
      · exact .inl (if_neg hb)
    · by_cases hb : b = a
      · have z' := (if_pos hb).symm.trans z
        cases z'
        subst hb
        exact ⟨ha, by rw [List.length_map]; exact hl, vs, _, rv, ha⟩
      · have z' := (if_neg hb).symm.trans z
        cases z'
    · by_cases hb : b = a
      · exact hb
      · exact absurd (if_neg hb) z
end L2

namespace L2
open PySem PySem.Spec PyProof.Rows

abbrev KOf {K : PySem.W.Frag} {h : Heap} (_ : K.In h) : PySem.W.Frag := K

theorem walk_of {l : PySem.W.OpenLaw} {n k : Nat} {q : Program} {loose : List Str} {XP : (Str → Option Value) → Heap → Prop} {YP : World → Heap → Prop} {d : DefRec} {K : Params → PySem.W.Frag} {CX : World → CXT} {sp : World → Sp} {x : Str}
    (hn : l.most = some n) (hn2 : n ≤ sizeLine) (hdf : d.params.defaults = []) (hr : Room k callerA)
    (hY : ∀ (w : World) (h : Heap), YP w h → (K w.params).In h)
    (F : ∀ (w : World) (mg : Str → Option Value) (fa : Addr) (h : Heap), (K w.params).In h → h.Ns mainGlobals mg → mg d.name = some (.ref fa) →
      ∃ fd : FuncData, (∀ (s : Shared) (u : Value), BindsTo s fd ⟨[u], []⟩ [(x, u)]) ∧
        ∀ base : Heap, (K w.params).In base → base.Ns mainGlobals mg → FnOk l.prog w (K w.params) mg base (CX w) k fa fd [x] (sp w))
    (hsp : ∀ (w : World) (H : Hp) (a : Addr) (ns : List Int), ns.length ≤ n → Only H → SqL (K w.params) H a (ns.map V.int) → sp w [.ref a] H (fun v _ => v = .bl true) fun _ _ _ => False)
    (hCX : ∀ (w : World) (H : Hp) (s : Shared) (e : Value) (s' : Shared), CX w [] H s (fun _ _ _ => False) e s' → False) :
    PySem.W.WalkO q loose XP YP l.row.toRowW d [] (fun f vs => PySem.call f vs) := by
  refine Att.attach_call hn hdf fun w s₀ s₁ mg mb fa o pm cd doc a vs ns G Y ho hd hcd hmg hobj hints hlen hg => ?_
  have KX := hY w _ Y
  obtain ⟨fd, hb, hF⟩ := F w mg fa _ KX G.T.g hmg
  exact law_call KX G.T.g G.T.b G.T.builtins G.T.nolimit hg hobj hints (Nat.le_trans hlen hn2) hr hF hb (fun H hO hS => hsp w H a ns hlen hO hS) fun H e s' => hCX w H s₁ e s'
end L2

namespace L2
open PySem PySem.Spec PyProof.Rows

def inClass (s : Stmt) (j : Nat) : Stmt := match s with
  | .ClassDef _ _ _ body _ _ _ _ _ _ _ => body.getD j (.Pass ⟨0, 0, 0, 0⟩)
  | _ => .Pass ⟨0, 0, 0, 0⟩
def defArgs (s : Stmt) : Arguments := match s with
  | .FunctionDef _ a _ _ _ _ _ _ _ _ => a
  | _ => { posonlyargs := [], args := [], vararg := none, kwonlyargs := [], kw_defaults := [], kwarg := none, defaults := [] }
def defBody (s : Stmt) : List Stmt := match s with
  | .FunctionDef _ _ b _ _ _ _ _ _ _ => b
  | _ => []
def defScope (s : Stmt) : Scope := match s with
  | .FunctionDef _ _ _ _ _ _ sc _ _ _ => sc
  | _ => { kind := .function, names := [], isGenerator := false, isCoroutine := false }

abbrev CX0 : CXT := fun _ _ _ _ _ _ => False
abbrev E0 : XK := fun _ _ _ => False
structure Fun (K : PySem.W.Frag) (x qual : Str) (st : Stmt) (f : Addr) (fd : FuncData) : Prop where
  ex : ∃ (oc : Value) (od : Option Addr) (kV doc pm : Value) (an : Option Addr) (cdv ct : Value) (osl : Array (Option Value)),
    fd = PySem.W.fnOf x qual (defArgs st) (defBody st) (defScope st) .none kV doc pm an cdv ct ∧ K.lookup f = some ⟨oc, od, .func fd, osl⟩ ∧ PySem.W.codeIn K cdv qual = true
  kp : PySem.W.keepIn K (.ref f) = true
section
variable {P : Program} {w : World} {K : PySem.W.Frag} {mg : Str → Option Value} {base : Heap}
theorem Fun.binds {x qual : Str} {st : Stmt} {f : Addr} {fd : FuncData} {ps : List Str} (F : Fun K x qual st f fd)
    (h : ∀ (kV doc pm : Value) (an : Option Addr) (cdv ct : Value) (us : List Value), us.length = ps.length → bindArgs (PySem.W.fnOf x qual (defArgs st) (defBody st) (defScope st) .none kV doc pm an cdv ct) ⟨us, []⟩ = pure (ps.zip us)) : Binds K fd ps [] := by
  obtain ⟨oc, od, kV, doc, pm, an, cdv, ct, osl, rfl, lk, hcd⟩ := F.ex
  exact .all (h kV doc pm an cdv ct)
theorem fun_mk {x qual : Str} {st : Stmt} {f : Addr} {oc : Value} {od an : Option Addr} {osl : Array (Option Value)} {kV doc pm cdv ct : Value} (l : K.lookup f = some ⟨oc, od, .func (PySem.W.fnOf x qual (defArgs st) (defBody st) (defScope st) .none kV doc pm an cdv ct), osl⟩)
    (c : PySem.W.codeIn K cdv qual = true) (k : PySem.W.keepIn K (.ref f) = true) : Fun K x qual st f (PySem.W.fnOf x qual (defArgs st) (defBody st) (defScope st) .none kV doc pm an cdv ct) := ⟨⟨oc, od, kV, doc, pm, an, cdv, ct, osl, rfl, l, c⟩, k⟩
end
section
variable {X : Cx}
end

def Same (H H' : Hp) : Prop := ∀ b o, H b = some o → H' b = some o
theorem Same.refl (H : Hp) : Same H H := fun _ _ h => h
theorem Same.trans {H H1 H2 : Hp} (a : Same H H1) (b : Same H1 H2) : Same H H2 := fun c o h => b c o (a c o h)
theorem Same.free {H H' : Hp} (e : Same H H') {l : Addr} (h : H' l = Option.none) : H l = Option.none := by
  cases q : H l with
  | none => rfl
  | some o =>
    rw [e l o q] at h
    cases h
theorem Same.seq {K : PySem.W.Frag} {H H' : Hp} {a : Addr} {xs : List V} (e : Same H H') (h : SqL K H a xs) : SqL K H' a xs := by
  rcases h with (h | ⟨o, h⟩) | h
  · exact .inl (.inl (e _ _ h))
  · exact .inl (.inr ⟨o, e _ _ h⟩)
  · exact .inr h

end L2

namespace L2
open PySem PySem.Spec PyProof.Rows
section
variable {X : Cx}
end
section
variable {κ : Type} [DecidableEq κ]
end
end L2


namespace L3
open PySem PySem.Spec PyProof.Rows L2
abbrev St := L2.St

inductive D where
  | non | bl (b : Bool) | int (i : Int) | str (x : Str) | tup (xs : List D) | lst (xs : List D) | exc (C : Addr) | ptr (a : Addr)
  | obj (C : Addr) (fs : List Str) (xs : List D) | dic (ks : List Key) (xs : List D) | dit (ks : List (List Key)) (xs : List D)

def excO (a C : Addr) : HO := .ext fun h => ∃ o vs, h.get? a = some o ∧ o.cls = .ref C ∧ o.data = .fields vs

mutual
def Rep (K : PySem.W.Frag) (F : Hp) : D → V → Prop
  | .non, v => v = .non
  | .bl b, v => v = .bl b
  | .int i, v => v = .int i
  | .str x, v => v = .str x
  | .tup ds, v => ∃ a vs, v = .ref a ∧ SqT K F a vs ∧ Reps K F ds vs
  | .lst ds, v => ∃ a vs, v = .ref a ∧ SqL K F a vs ∧ Reps K F ds vs
  | .exc C, v => ∃ a, v = .ref a ∧ F a = some (excO a C)
  | .ptr a, v => v = .ref a
  | .obj C fs ds, v => ∃ a dx vs, v = .ref a ∧ F a = some (.ins C dx (fs.zip vs)) ∧ F dx = some (.own a) ∧ fs.length = vs.length ∧ Reps K F ds vs
  | .dic ks ds, v => ∃ a vs, v = .ref a ∧ F a = some (.dK (ks.zip vs)) ∧ ks.length = vs.length ∧ Reps K F ds vs
  | .dit ks ds, v => ∃ a vs, v = .ref a ∧ F a = some (.dT (ks.zip vs)) ∧ ks.length = vs.length ∧ Reps K F ds vs
def Reps (K : PySem.W.Frag) (F : Hp) : List D → List V → Prop
  | [], vs => vs = []
  | d :: ds, vs => ∃ v r, vs = v :: r ∧ Rep K F d v ∧ Reps K F ds r
end

theorem sqT_mono {K : PySem.W.Frag} {H H' : Hp} {a : Addr} {xs : List V} (e : Same H H') (h : SqT K H a xs) : SqT K H' a xs := by
  rcases h with (h | ⟨o, h⟩) | h
  · exact .inl (.inl (e _ _ h))
  · exact .inl (.inr ⟨o, e _ _ h⟩)
  · exact .inr h

mutual
theorem rep_mono {K : PySem.W.Frag} {F F' : Hp} (e : Same F F') : ∀ (d : D) (v : V), Rep K F d v → Rep K F' d v
  | .non, _, h => by unfold Rep at h ⊢; exact h
  | .bl _, _, h => by unfold Rep at h ⊢; exact h
  | .int _, _, h => by unfold Rep at h ⊢; exact h
  | .str _, _, h => by unfold Rep at h ⊢; exact h
  | .tup ds, _, h => by
    unfold Rep at h ⊢
    obtain ⟨a, vs, h0, h1, h2⟩ := h
    exact ⟨a, vs, h0, sqT_mono e h1, reps_mono e ds vs h2⟩
  | .lst ds, _, h => by
    unfold Rep at h ⊢
    obtain ⟨a, vs, h0, h1, h2⟩ := h
    exact ⟨a, vs, h0, e.seq h1, reps_mono e ds vs h2⟩
  | .ptr _, _, h => by unfold Rep at h ⊢; exact h
  | .exc C, _, h => by
    unfold Rep at h ⊢
    obtain ⟨a, h0, h1⟩ := h
    exact ⟨a, h0, e _ _ h1⟩
  | .obj C fs ds, _, h => by
    unfold Rep at h ⊢
    obtain ⟨a, dx, vs, h0, h1, h2, h3, h4⟩ := h
    exact ⟨a, dx, vs, h0, e _ _ h1, e _ _ h2, h3, reps_mono e ds vs h4⟩
  | .dic ks ds, _, h => by
    unfold Rep at h ⊢
    obtain ⟨a, vs, h0, h1, h3, h4⟩ := h
    exact ⟨a, vs, h0, e _ _ h1, h3, reps_mono e ds vs h4⟩
  | .dit ks ds, _, h => by
    unfold Rep at h ⊢
    obtain ⟨a, vs, h0, h1, h3, h4⟩ := h
    exact ⟨a, vs, h0, e _ _ h1, h3, reps_mono e ds vs h4⟩
theorem reps_mono {K : PySem.W.Frag} {F F' : Hp} (e : Same F F') : ∀ (ds : List D) (vs : List V), Reps K F ds vs → Reps K F' ds vs
  | [], _, h => by unfold Reps at h ⊢; exact h
  | d :: ds, _, h => by
    unfold Reps at h ⊢
    obtain ⟨v, r, h0, h1, h2⟩ := h
    exact ⟨v, r, h0, rep_mono e d v h1, reps_mono e ds r h2⟩
end
theorem Rep.up {K : PySem.W.Frag} {F F' : Hp} {d : D} {v : V} (h : Rep K F d v) (e : Same F F') : Rep K F' d v := rep_mono e d v h
theorem Reps.up {K : PySem.W.Frag} {F F' : Hp} {ds : List D} {vs : List V} (h : Reps K F ds vs) (e : Same F F') : Reps K F' ds vs := reps_mono e ds vs h
theorem reps_len {K : PySem.W.Frag} {F : Hp} : ∀ {ds : List D} {vs : List V}, Reps K F ds vs → ds.length = vs.length
  | [], _, h => by unfold Reps at h; subst h; rfl
  | _ :: _, _, h => by
    unfold Reps at h
    obtain ⟨v, r, rfl, _, h2⟩ := h
    simp only [List.length_cons, reps_len h2]
theorem reps_get {K : PySem.W.Frag} {F : Hp} : ∀ {ds : List D} {vs : List V} {i : Nat} {d : D}, Reps K F ds vs → ds[i]? = some d → ∃ v, vs[i]? = some v ∧ Rep K F d v
  | [], _, _, _, _, e => by simp at e
  | _ :: _, _, 0, _, h, e => by
    unfold Reps at h
    obtain ⟨v, r, rfl, h1, _⟩ := h
    simp at e; subst e
    exact ⟨v, rfl, h1⟩
  | _ :: _, _, i + 1, d, h, e => by
    unfold Reps at h
    obtain ⟨v, r, rfl, _, h2⟩ := h
    obtain ⟨u, e1, e2⟩ := reps_get (i := i) h2 (by simpa using e)
    exact ⟨u, by simpa using e1, e2⟩
theorem reps_get' {K : PySem.W.Frag} {F : Hp} : ∀ {ds : List D} {vs : List V} {i : Nat} {v : V}, Reps K F ds vs → vs[i]? = some v → ∃ d, ds[i]? = some d ∧ Rep K F d v
  | [], _, _, _, h, e => by unfold Reps at h; subst h; simp at e
  | d :: _, _, 0, _, h, e => by
    unfold Reps at h
    obtain ⟨v, r, rfl, h1, _⟩ := h
    simp at e; subst e
    exact ⟨d, rfl, h1⟩
  | _ :: _, _, i + 1, v, h, e => by
    unfold Reps at h
    obtain ⟨v', r, rfl, _, h2⟩ := h
    obtain ⟨u, e1, e2⟩ := reps_get' (i := i) h2 (by simpa using e)
    exact ⟨u, by simpa using e1, e2⟩
theorem reps_app {K : PySem.W.Frag} {F : Hp} : ∀ {ds es : List D} {vs us : List V}, Reps K F ds vs → Reps K F es us → Reps K F (ds ++ es) (vs ++ us)
  | [], _, _, _, h, k => by unfold Reps at h; subst h; exact k
  | _ :: _, _, _, _, h, k => by
    unfold Reps at h
    obtain ⟨v, r, rfl, h1, h2⟩ := h
    show Reps K F (_ :: (_ ++ _)) _
    unfold Reps
    exact ⟨v, _, rfl, h1, reps_app h2 k⟩
theorem reps_one {K : PySem.W.Frag} {F : Hp} {d : D} {v : V} (h : Rep K F d v) : Reps K F [d] [v] := by
  unfold Reps
  exact ⟨v, [], rfl, h, by unfold Reps; rfl⟩
theorem reps_cons {K : PySem.W.Frag} {F : Hp} {d : D} {v : V} {ds : List D} {vs : List V} (h : Rep K F d v) (k : Reps K F ds vs) : Reps K F (d :: ds) (v :: vs) := by
  unfold Reps
  exact ⟨v, vs, rfl, h, k⟩
theorem reps_take {K : PySem.W.Frag} {F : Hp} : ∀ {ds : List D} {vs : List V} (n : Nat), Reps K F ds vs → Reps K F (ds.take n) (vs.take n)
  | _, _, 0, _ => by simp [Reps]
  | [], _, _ + 1, h => by unfold Reps at h; subst h; simp [Reps]
  | _ :: _, _, n + 1, h => by
    unfold Reps at h
    obtain ⟨u, r, rfl, h1, h2⟩ := h
    exact reps_cons h1 (reps_take n h2)
theorem reps_drop {K : PySem.W.Frag} {F : Hp} : ∀ {ds : List D} {vs : List V} (n : Nat), Reps K F ds vs → Reps K F (ds.drop n) (vs.drop n)
  | _, _, 0, h => h
  | [], _, _ + 1, h => by unfold Reps at h; subst h; simp [Reps]
  | _ :: _, _, n + 1, h => by
    unfold Reps at h
    obtain ⟨u, r, rfl, h1, h2⟩ := h
    exact reps_drop n h2

structure Gr (F H F' H' : Hp) : Prop where
  f : Same F F'
  g : Same F' H'
  h : Same H H'
  n : ∀ b o, F' b = some o → F b = none → H b = none
theorem Gr.refl {F H : Hp} (h : Same F H) : Gr F H F H := ⟨.refl _, h, .refl _, fun b o e n => by rw [e] at n; cases n⟩
theorem Gr.trans {F H F1 H1 F2 H2 : Hp} (a : Gr F H F1 H1) (b : Gr F1 H1 F2 H2) : Gr F H F2 H2 := by
  refine ⟨a.f.trans b.f, b.g, a.h.trans b.h, fun c o e n => ?_⟩
  cases q : F1 c with
  | none => exact a.h.free (b.n c o e q)
  | some u => exact a.n c u q n
theorem Gr.laid {F H : Hp} {p : Addr} {o : HO} (h : Same F H) (hp : H p = none) : Gr F H (L2.upd F p o) (L2.upd H p o) := by
  refine ⟨fun b u e => ?_, fun b u e => ?_, fun b u e => ?_, fun b u e n => ?_⟩
  · rw [upd_ne (ne_of_none (h b u e) hp)]; exact e
  · by_cases hb : b = p
    · subst hb; rw [upd_same] at e ⊢; exact e
    · rw [upd_ne hb] at e ⊢; exact h b u e
  · rw [upd_ne (ne_of_none e hp)]; exact e
  · by_cases hb : b = p
    · subst hb; exact hp
    · rw [upd_ne hb, n] at e; cases e

inductive T where
  | leaf (d : D) | lst (ts : List T) | dic (ks : List L2.Key) (ts : List T)
mutual
def TR (K : PySem.W.Frag) (F H : Hp) : T → V → List Addr → Prop
  | .leaf d, v, as => as = [] ∧ Rep K F d v
  | .lst ts, v, as => ∃ a vs bs, v = .ref a ∧ as = a :: bs ∧ H a = some (.lst vs) ∧ TRs K F H ts vs bs
  | .dic ks ts, v, as => ∃ a vs bs, v = .ref a ∧ as = a :: bs ∧ H a = some (.dK (ks.zip vs)) ∧ ks.length = vs.length ∧ TRs K F H ts vs bs
def TRs (K : PySem.W.Frag) (F H : Hp) : List T → List V → List Addr → Prop
  | [], vs, as => vs = [] ∧ as = []
  | t :: ts, vs, as => ∃ v us bs cs, vs = v :: us ∧ as = bs ++ cs ∧ TR K F H t v bs ∧ TRs K F H ts us cs
end
section
variable {K : PySem.W.Frag} {F H F' H' : Hp}
mutual
theorem TR.move (f : Same F F') : ∀ (t : T) (v : V) (as : List Addr), (∀ a ∈ as, ∀ u, H a = some u → H' a = some u) → TR K F H t v as → TR K F' H' t v as
  | .leaf d, v, as, k, h => by unfold TR at h ⊢; exact ⟨h.1, h.2.up f⟩
  | .lst ts, v, as, k, h => by
    unfold TR at h ⊢
    obtain ⟨a, vs, bs, e1, rfl, e3, h⟩ := h
    exact ⟨a, vs, bs, e1, rfl, k a List.mem_cons_self _ e3, TRs.move f ts vs bs (fun b hb => k b (List.mem_cons_of_mem _ hb)) h⟩
  | .dic ks ts, v, as, k, h => by
    unfold TR at h ⊢
    obtain ⟨a, vs, bs, e1, rfl, e3, e4, h⟩ := h
    exact ⟨a, vs, bs, e1, rfl, k a List.mem_cons_self _ e3, e4, TRs.move f ts vs bs (fun b hb => k b (List.mem_cons_of_mem _ hb)) h⟩
theorem TRs.move (f : Same F F') : ∀ (ts : List T) (vs : List V) (as : List Addr), (∀ a ∈ as, ∀ u, H a = some u → H' a = some u) → TRs K F H ts vs as → TRs K F' H' ts vs as
  | [], vs, as, k, h => by unfold TRs at h ⊢; exact h
  | t :: ts, vs, as, k, h => by
    unfold TRs at h ⊢
    obtain ⟨v, us, bs, cs, e1, rfl, h1, h2⟩ := h
    exact ⟨v, us, bs, cs, e1, rfl, TR.move f t v bs (fun b hb => k b (List.mem_append_left _ hb)) h1, TRs.move f ts us cs (fun b hb => k b (List.mem_append_right _ hb)) h2⟩
end
def LD (u : HO) : Prop := (∃ vs, u = .lst vs) ∨ ∃ kvs, u = .dK kvs
mutual
theorem TR.there : ∀ (t : T) (v : V) (as : List Addr), TR K F H t v as → ∀ a ∈ as, ∃ u, H a = some u ∧ LD u
  | .leaf d, v, as, h, a, ha => by unfold TR at h; rw [h.1] at ha; cases ha
  | .lst ts, v, as, h, a, ha => by
    unfold TR at h
    obtain ⟨b, vs, bs, e1, rfl, e3, h⟩ := h
    rcases List.mem_cons.mp ha with rfl | ha
    · exact ⟨_, e3, .inl ⟨_, rfl⟩⟩
    · exact TRs.there ts vs bs h a ha
  | .dic ks ts, v, as, h, a, ha => by
    unfold TR at h
    obtain ⟨b, vs, bs, e1, rfl, e3, _, h⟩ := h
    rcases List.mem_cons.mp ha with rfl | ha
    · exact ⟨_, e3, .inr ⟨_, rfl⟩⟩
    · exact TRs.there ts vs bs h a ha
theorem TRs.there : ∀ (ts : List T) (vs : List V) (as : List Addr), TRs K F H ts vs as → ∀ a ∈ as, ∃ u, H a = some u ∧ LD u
  | [], vs, as, h, a, ha => by unfold TRs at h; rw [h.2] at ha; cases ha
  | t :: ts, vs, as, h, a, ha => by
    unfold TRs at h
    obtain ⟨v, us, bs, cs, e1, rfl, h1, h2⟩ := h
    rcases List.mem_append.mp ha with ha | ha
    · exact TR.there t v bs h1 a ha
    · exact TRs.there ts us cs h2 a ha
end
end
mutual
def toD : T → D
  | .leaf d => d
  | .lst ts => .lst (toDs ts)
  | .dic ks ts => .dic ks (toDs ts)
def toDs : List T → List D
  | [] => []
  | t :: ts => toD t :: toDs ts
end
section
variable {K : PySem.W.Frag} {F H F' : Hp}
mutual
theorem TR.rep (f : Same F F') : ∀ (t : T) (v : V) (as : List Addr), (∀ a ∈ as, ∀ u, H a = some u → F' a = some u) → TR K F H t v as → Rep K F' (toD t) v
  | .leaf d, v, as, k, h => by unfold TR at h; unfold toD; exact h.2.up f
  | .lst ts, v, as, k, h => by
    unfold TR at h
    obtain ⟨a, vs, bs, e1, rfl, e3, h⟩ := h
    unfold toD Rep
    exact ⟨a, vs, e1, .inl (.inl (k a List.mem_cons_self _ e3)), TRs.rep f ts vs bs (fun b hb => k b (List.mem_cons_of_mem _ hb)) h⟩
  | .dic ks ts, v, as, k, h => by
    unfold TR at h
    obtain ⟨a, vs, bs, e1, rfl, e3, e4, h⟩ := h
    unfold toD Rep
    exact ⟨a, vs, e1, k a List.mem_cons_self _ e3, e4, TRs.rep f ts vs bs (fun b hb => k b (List.mem_cons_of_mem _ hb)) h⟩
theorem TRs.rep (f : Same F F') : ∀ (ts : List T) (vs : List V) (as : List Addr), (∀ a ∈ as, ∀ u, H a = some u → F' a = some u) → TRs K F H ts vs as → Reps K F' (toDs ts) vs
  | [], vs, as, k, h => by unfold TRs at h; unfold toDs Reps; exact h.1
  | t :: ts, vs, as, k, h => by
    unfold TRs at h
    obtain ⟨v, us, bs, cs, e1, rfl, h1, h2⟩ := h
    unfold toDs Reps
    exact ⟨v, us, e1, TR.rep f t v bs (fun b hb => k b (List.mem_append_left _ hb)) h1, TRs.rep f ts us cs (fun b hb => k b (List.mem_append_right _ hb)) h2⟩
end
end
inductive Slot where
  | no | pu (d : D) | ow (ds : List D) | tr (as : List Addr) (t : T)

def SlotR (K : PySem.W.Frag) (F H H0 : Hp) : Slot → Option V → Prop
  | .no, _ => True
  | .pu d, o => ∃ v, o = some v ∧ Rep K F d v
  | .ow ds, o => ∃ a vs, o = some (.ref a) ∧ H a = some (.lst vs) ∧ F a = none ∧ H0 a = none ∧ Reps K F ds vs
  | .tr as t, o => ∃ v, o = some v ∧ as.Nodup ∧ (∀ b ∈ as, F b = none ∧ H0 b = none) ∧ TR K F H t v as
def Own1 : Slot → Option V → Addr → Prop
  | .ow _, o, a => o = some (.ref a)
  | .tr as _, _, a => a ∈ as
  | _, _, _ => False
def OwnAt (Γ : List Slot) (σ : St) (i : Nat) (a : Addr) : Prop := ∃ s o, Γ[i]? = some s ∧ σ[i]? = some o ∧ Own1 s o a

structure SR (K : PySem.W.Frag) (F0 H0 F H : Hp) (σ : St) (Γ : List Slot) : Prop where
  gr : Gr F0 H0 F H
  len : σ.length = Γ.length
  sl : ∀ (i : Nat) s, Γ[i]? = some s → ∃ o, σ[i]? = some o ∧ SlotR K F H H0 s o
  ap : ∀ (i j : Nat) a, OwnAt Γ σ i a → OwnAt Γ σ j a → i = j

section
variable {K : PySem.W.Frag} {F0 H0 F H F' H' : Hp} {σ : St} {Γ : List Slot}
theorem SR.g (R : SR K F0 H0 F H σ Γ) : Same F H := R.gr.g
theorem own1_of {s : Slot} {o : Option V} {a : Addr} (r : SlotR K F H H0 s o) (h : Own1 s o a) : F a = none ∧ H0 a = none ∧ ∃ u, H a = some u ∧ LD u := by
  cases s with
  | no => exact h.elim
  | pu d => exact h.elim
  | ow ds => obtain ⟨b, vs, rfl, h1, h2, h3, _⟩ := r; cases h; exact ⟨h2, h3, _, h1, .inl ⟨_, rfl⟩⟩
  | tr as t => obtain ⟨v, _, _, h2, h3⟩ := r; exact ⟨(h2 a h).1, (h2 a h).2, TR.there t v as h3 a h⟩
theorem slotR_move {s : Slot} {o : Option V} (r : SlotR K F H H0 s o) (f : Same F F') (k : ∀ a, Own1 s o a → F' a = none ∧ ∀ u, H a = some u → H' a = some u) : SlotR K F' H' H0 s o := by
  cases s with
  | no => trivial
  | pu d =>
    obtain ⟨v, e, r⟩ := r
    exact ⟨v, e, r.up f⟩
  | ow ds =>
    obtain ⟨a, vs, e, e1, e2, e3, r⟩ := r
    obtain ⟨k1, k2⟩ := k a e
    exact ⟨a, vs, e, k2 _ e1, k1, e3, r.up f⟩
  | tr as t =>
    obtain ⟨v, e, nd, h, r⟩ := r
    exact ⟨v, e, nd, fun b hb => ⟨(k b hb).1, (h b hb).2⟩, TR.move f t v as (fun a ha => (k a ha).2) r⟩
theorem slotR_grow {s : Slot} {o : Option V} (r : SlotR K F H H0 s o) (g : Gr F H F' H') : SlotR K F' H' H0 s o :=
  slotR_move r g.f fun a ha => by
    obtain ⟨h1, _, u, h3, _⟩ := own1_of r ha
    refine ⟨?_, fun u e => g.h _ _ e⟩
    cases q : F' a with
    | none => rfl
    | some w => have z := g.n a w q h1; rw [h3] at z; cases z
theorem SR.grow (R : SR K F0 H0 F H σ Γ) (g : Gr F H F' H') : SR K F0 H0 F' H' σ Γ := by
  refine ⟨R.gr.trans g, R.len, fun i s e => ?_, R.ap⟩
  obtain ⟨o, e1, r⟩ := R.sl i s e
  exact ⟨o, e1, slotR_grow r g⟩
theorem ownAt_set {i j : Nat} {s : Slot} {o : Option V} {a : Addr} (h : OwnAt (Γ.set i s) (σ.set i o) j a) : (j = i ∧ Own1 s o a) ∨ (j ≠ i ∧ OwnAt Γ σ j a) := by
  obtain ⟨t, p, e1, e2, h⟩ := h
  by_cases hj : i = j
  · subst hj
    have hi : i < Γ.length := by
      rcases Nat.lt_or_ge i Γ.length with h | h
      · exact h
      · rw [List.getElem?_eq_none (by simpa using h)] at e1; cases e1
    have hi' : i < σ.length := by
      rcases Nat.lt_or_ge i σ.length with h | h
      · exact h
      · rw [List.getElem?_eq_none (by simpa using h)] at e2; cases e2
    rw [List.getElem?_set_self hi] at e1
    rw [List.getElem?_set_self hi'] at e2
    cases e1; cases e2
    exact .inl ⟨rfl, h⟩
  · rw [List.getElem?_set_ne hj] at e1 e2
    exact .inr ⟨Ne.symm hj, t, p, e1, e2, h⟩
def Apart (σ : St) (Γ : List Slot) (a : Addr) : Prop := ∀ j, ¬ OwnAt Γ σ j a
theorem SR.apart (R : SR K F0 H0 F H σ Γ) {a : Addr} (h : H a = none) : Apart σ Γ a := fun j ⟨s, o, e1, e2, q⟩ => by
  obtain ⟨o', e3, r⟩ := R.sl j s e1
  rw [e2] at e3; cases e3
  obtain ⟨_, _, u, e, _⟩ := own1_of r q
  rw [h] at e; cases e
theorem SR.put {s : Slot} {o : Option V} (R : SR K F0 H0 F H σ Γ) (i : Nat) (r : SlotR K F H H0 s o) (ha : ∀ a, Own1 s o a → Apart σ Γ a) : SR K F0 H0 F H (σ.set i o) (Γ.set i s) := by
  refine ⟨R.gr, by simp [R.len], fun j t e => ?_, fun j k a e1 e2 => ?_⟩
  · by_cases hj : i = j
    · subst hj
      have hi : i < Γ.length := by
        rcases Nat.lt_or_ge i Γ.length with h | h
        · exact h
        · rw [List.getElem?_eq_none (by simpa using h)] at e; cases e
      rw [List.getElem?_set_self hi] at e
      cases e
      exact ⟨o, List.getElem?_set_self (by rw [R.len]; exact hi), r⟩
    · rw [List.getElem?_set_ne hj] at e
      rw [List.getElem?_set_ne hj]
      exact R.sl j t e
  · rcases ownAt_set e1 with ⟨rfl, q1⟩ | ⟨n1, q1⟩
    · rcases ownAt_set e2 with ⟨rfl, _⟩ | ⟨_, q2⟩
      · rfl
      · exact (ha a q1 _ q2).elim
    · rcases ownAt_set e2 with ⟨rfl, q2⟩ | ⟨_, q2⟩
      · exact (ha a q2 _ q1).elim
      · exact R.ap j k a q1 q2
theorem SR.set {d : D} {v : V} (R : SR K F0 H0 F H σ Γ) (i : Nat) (r : Rep K F d v) : SR K F0 H0 F H (σ.set i (some v)) (Γ.set i (.pu d)) := R.put i ⟨v, rfl, r⟩ fun _ h => h.elim
theorem SR.drop (R : SR K F0 H0 F H σ Γ) (i : Nat) (o : Option V) : SR K F0 H0 F H (σ.set i o) (Γ.set i .no) := R.put i trivial fun _ h => h.elim
theorem SR.setOw {ds : List D} {vs : List V} {a : Addr} (R : SR K F0 H0 F H σ Γ) (i : Nat) (h1 : H a = some (.lst vs)) (h2 : F a = none) (h3 : H0 a = none) (r : Reps K F ds vs) (ha : Apart σ Γ a) :
    SR K F0 H0 F H (σ.set i (some (.ref a))) (Γ.set i (.ow ds)) := R.put i ⟨a, vs, rfl, h1, h2, h3, r⟩ fun b h => by cases h; exact ha
theorem frz_gr {a : Addr} {vs : List V} (g : Same F H) (h1 : H a = some (.lst vs)) (h2 : F a = none) : Same F (L2.upd F a (.lst vs)) ∧ Same (L2.upd F a (.lst vs)) H := by
  refine ⟨fun b u e => ?_, fun b u e => ?_⟩
  · rw [upd_ne (ne_of_none e h2)]; exact e
  · by_cases hb : b = a
    · subst hb; rw [upd_same] at e; cases e; exact h1
    · rw [upd_ne hb] at e; exact g b u e
theorem SR.frzM (R : SR K F0 H0 F H σ Γ) (s1 : Same F F') (s2 : Same F' H) (n : ∀ b u, F' b = some u → F b = none → H0 b = none ∧ Apart σ Γ b) : SR K F0 H0 F' H σ Γ := by
  refine ⟨⟨R.gr.f.trans s1, s2, R.gr.h, fun b o e q => ?_⟩, R.len, fun j s e => ?_, R.ap⟩
  · cases z : F b with
    | none => exact (n b o e z).1
    | some u => exact R.gr.n b u z q
  · obtain ⟨o, e1, r⟩ := R.sl j s e
    refine ⟨o, e1, slotR_move r s1 fun b hb => ⟨?_, fun _ q => q⟩⟩
    obtain ⟨h1, _, _⟩ := own1_of r hb
    cases q : F' b with
    | none => rfl
    | some u => exact ((n b u q h1).2 j ⟨s, o, e, e1, hb⟩).elim
theorem SR.frzA {a : Addr} {vs : List V} (R : SR K F0 H0 F H σ Γ) (h1 : H a = some (.lst vs)) (h2 : F a = none) (h3 : H0 a = none) (ha : Apart σ Γ a) : SR K F0 H0 (L2.upd F a (.lst vs)) H σ Γ := by
  obtain ⟨s1, s2⟩ := frz_gr R.g h1 h2
  refine R.frzM s1 s2 fun b u e n => ?_
  by_cases hb : b = a
  · subst hb; exact ⟨h3, ha⟩
  · rw [upd_ne hb, n] at e; cases e
theorem set_at {o : Option V} {i : Nat} (e1 : σ[i]? = some o) : σ.set i o = σ := by
  obtain ⟨hl, e2⟩ := List.getElem?_eq_some_iff.mp e1
  rw [← e2]; simp
theorem SR.less {i : Nat} {s : Slot} {o : Option V} {a : Addr} (R : SR K F0 H0 F H σ Γ) (e : Γ[i]? = some s) (e1 : σ[i]? = some o) (h : Own1 s o a) : Apart σ (Γ.set i .no) a := fun j q => by
  have q' : OwnAt (Γ.set i .no) (σ.set i o) j a := by rw [set_at e1]; exact q
  rcases ownAt_set q' with ⟨_, z⟩ | ⟨n, z⟩
  · exact z
  · exact n (R.ap j i a z ⟨s, o, e, e1, h⟩)
theorem SR.dropAt {i : Nat} {o : Option V} (R : SR K F0 H0 F H σ Γ) (e1 : σ[i]? = some o) : SR K F0 H0 F H σ (Γ.set i .no) := by
  have q := R.drop i o
  rw [set_at e1] at q; exact q
theorem SR.frz {i : Nat} {ds : List D} (R : SR K F0 H0 F H σ Γ) (e : Γ[i]? = some (.ow ds)) : ∃ a F', σ[i]? = some (some (.ref a)) ∧ Same F F' ∧ SR K F0 H0 F' H σ (Γ.set i (.pu (.lst ds))) ∧ Rep K F' (.lst ds) (.ref a) := by
  obtain ⟨o, e1, a, vs, rfl, h1, h2, h3, r⟩ := R.sl i _ e
  obtain ⟨s1, _⟩ := frz_gr R.g h1 h2
  have rp : Rep K (L2.upd F a (.lst vs)) (.lst ds) (.ref a) := by
    unfold Rep
    exact ⟨a, vs, rfl, .inl (.inl upd_same), r.up s1⟩
  have R2 := ((R.dropAt e1).frzA h1 h2 h3 (R.less e e1 (show Own1 (Slot.ow ds) (some (.ref a)) a from rfl))).set i rp
  rw [set_at e1, List.set_set] at R2
  exact ⟨a, _, e1, s1, R2, rp⟩
theorem SR.wrO {i : Nat} {s t : Slot} {o : Option V} {a : Addr} {u : HO} (R : SR K F0 H0 F H σ Γ) (e : Γ[i]? = some s) (e1 : σ[i]? = some o) (h : Own1 s o a) (r : SlotR K F (L2.upd H a u) H0 t o) (ht : ∀ b, Own1 t o b → Own1 s o b) :
    SR K F0 H0 F (L2.upd H a u) σ (Γ.set i t) := by
  obtain ⟨o', e2, r0⟩ := R.sl i _ e
  rw [e1] at e2; cases e2
  obtain ⟨h2, h3, w, h1, _⟩ := own1_of r0 h
  have hi : i < Γ.length := (List.getElem?_eq_some_iff.mp e).1
  have R1 : SR K F0 H0 F (L2.upd H a u) σ (Γ.set i .no) := by
    have R0 := R.dropAt e1
    refine ⟨⟨R0.gr.f, fun b u q => ?_, fun b u q => ?_, fun b o q n => R0.gr.n b o q n⟩, R0.len, fun j s' q => ?_, R0.ap⟩
    · rw [upd_ne (ne_of_none q h2)]; exact R0.g b u q
    · rw [upd_ne (ne_of_none q h3)]; exact R0.gr.h b u q
    · obtain ⟨o, p1, p2⟩ := R0.sl j s' q
      refine ⟨o, p1, slotR_move p2 (.refl _) fun b hb => ⟨(own1_of p2 hb).1, fun u q' => ?_⟩⟩
      have : b ≠ a := fun z => by subst z; exact R.less e e1 h j ⟨s', o, q, p1, hb⟩
      rw [upd_ne this]; exact q'
  have R2 := R1.put i r fun b hb => R.less e e1 (ht b hb)
  rw [set_at e1, List.set_set] at R2
  exact R2
theorem SR.wr {i : Nat} {ds es : List D} {a : Addr} {us : List V} (R : SR K F0 H0 F H σ Γ) (e : Γ[i]? = some (.ow ds)) (e1 : σ[i]? = some (some (.ref a))) (r : Reps K F es us) :
    SR K F0 H0 F (L2.upd H a (.lst us)) σ (Γ.set i (.ow es)) := by
  obtain ⟨o, e2, r0⟩ := R.sl i _ e
  rw [e1] at e2; cases e2
  obtain ⟨h2, h3, _⟩ := own1_of r0 (show Own1 (Slot.ow ds) (some (.ref a)) a from rfl)
  exact R.wrO e e1 (show Own1 (Slot.ow ds) (some (.ref a)) a from rfl) ⟨a, us, rfl, upd_same, h2, h3, r⟩ fun b hb => hb
theorem SR.base (R : SR K F0 H0 F H σ Γ) : SR K F H0 F H σ Γ := ⟨⟨.refl _, R.g, R.gr.h, fun b o e n => by rw [e] at n; cases n⟩, R.len, R.sl, R.ap⟩
theorem Gr.unbase (g : Gr F0 H0 F H) (g' : Gr F H0 F' H') : Gr F0 H0 F' H' := by
  refine ⟨g.f.trans g'.f, g'.g, g'.h, fun b o e n => ?_⟩
  cases q : F b with
  | none => exact g'.n b o e q
  | some u => exact g.n b u q n
theorem SR.unbase {σ' : St} {Γ' : List Slot} (g : Gr F0 H0 F H) (R : SR K F H0 F' H' σ' Γ') : SR K F0 H0 F' H' σ' Γ' := ⟨g.unbase R.gr, R.len, R.sl, R.ap⟩
end
end L3

namespace L3
open PySem PySem.Spec PyProof.Rows L2

def Air (B : Heap) (l : List Env) (a : Addr) (cls : Value) (h : Heap) : Prop :=
  B.StaysIn h ∧ B.get? a = none ∧ h.FunFrames B l ∧
    ((∃ a0, h.TracedW B a cls a0) ∨ ∃ oe vs a0, h.get? a = some oe ∧ oe.cls = cls ∧ oe.data = .fields vs ∧ vs[1]? = some Value.none ∧ vs[0]? = some a0)

section
variable {M : Model} {A : Around} {E : Value → Shared → Prop} {s : Shared} {B : Heap} {env : Env} {outer : List Env} {L a : Addr} {cls : Value} {Q : Unit → Shared → Prop}
theorem air_leave (hfr : A.frames = some (env :: outer)) (hf : env.frame = some L) (x : Air B (env :: outer) a cls s.heap)
    (hQ : ∀ h', Air B outer a cls h' → s.heap.UpToSlots h' → Q () { s with heap := h' }) : wpAny M A (leaving env (.ref a)) Q E s := by
  obtain ⟨f1, f2, f3, f4 | ⟨oe, vs, a0, he, hc, hd, h1, h0⟩⟩ := x
  · obtain ⟨a0, f4⟩ := f4
    exact wpAny_leaves_onW hfr hf ⟨f1, f2, f3, f4⟩ fun h' fl up => hQ h' ⟨fl.1, fl.2.1, fl.2.2.1, .inl ⟨a0, fl.2.2.2⟩⟩ up
  · subst hc
    refine wpAny_leaving_firstW hfr f3 hf he f1 f2 hd h1 h0 fun h' lw => ?_
    obtain ⟨k1, ⟨_, _, k2⟩, k3, k4⟩ := lw
    exact hQ h' ⟨k1, f2, k2, .inl ⟨a0, k3⟩⟩ k4
theorem air_look (hfr : A.frames = some (env :: outer)) (hf : env.frame = some L) (x : Air B (env :: outer) a cls s.heap)
    (hQ : ∀ h' a0, Heap.HeldW B (env :: outer) a cls a0 L h' → s.heap.UpToSlots h' → Q () { s with heap := h' }) : wpAny M A (noteFrame (.ref a) env) Q E s := by
  obtain ⟨f1, f2, f3, f4 | ⟨oe, vs, a0, he, hc, hd, h1, h0⟩⟩ := x
  · obtain ⟨a0, f4⟩ := f4
    exact wpAny_looks_onW hfr hf ⟨f1, f2, f3, f4⟩ fun h' fl up => hQ h' a0 fl up
  · subst hc
    unfold noteFrame
    simp only [hf]
    refine wpAny_bind (wpAny_field he hd h1 ?_)
    rw [if_neg (by decide)]
    refine wpAny_entryW hfr f3 hf he f1 f2 hd (Array.getElem?_eq_some_iff.mp h1).1 h0 fun h' nw => ?_
    obtain ⟨k1, k2, k3, k4⟩ := nw
    exact hQ h' a0 ⟨k1, f2, k2, k3⟩ k4
end

def CX1 (P : Program) (w : World) : CXT := fun outer H s E e s' =>
  ∃ a C H' B, e = .ref a ∧ s'.os = s.os ∧ AllBare s'.gens ∧ Un (frs outer) [] H H' s.heap s'.heap ∧ HOk P w H' s'.heap ∧ Air B outer a C s'.heap ∧
    (∀ b o, s.heap.get? b = some o → b ∉ frs outer → ∃ o', B.get? b = some o') ∧ (∀ b u, H' b = some u → ∃ o', B.get? b = some o') ∧ E C none H'

theorem CX1.imp {P : Program} {w : World} {outer : List Env} {H : Hp} {s : Shared} {E E' : XK} {e : Value} {s' : Shared} (h : CX1 P w outer H s E e s') (k : ∀ C dx H', E C dx H' → E' C dx H') : CX1 P w outer H s E' e s' := by
  obtain ⟨a, C, H', B, h1, h2, h3, h4, h5, h6, h7, h8, h9⟩ := h
  exact ⟨a, C, H', B, h1, h2, h3, h4, h5, h6, h7, h8, k _ _ _ h9⟩

section
variable {X : Cx} {pins : List (Addr × Obj)} {σ : St} {H H' : Hp} {s s' : Shared} {B : Heap} {h' : Heap}
theorem hok_air (hok : HOk X.prog X.w H' s'.heap) (b1 : B.StaysIn s'.heap) (b2 : B.StaysIn h') (trk : ∀ b u, H' b = some u → ∃ o', B.get? b = some o') : HOk X.prog X.w H' h' := fun b u e =>
  (hok b u e).stay (fun c v hc q => by
    have : ∃ o', B.get? c = some o' := by
      rcases hc with rfl | hc
      · exact trk _ _ e
      · exact trk _ _ hc
    obtain ⟨o', e'⟩ := this
    have z := b1 c o' e'
    rw [q] at z; cases z
    exact b2 c _ e') (fun _ q => q) fun _ _ q => q
theorem un_air (I : Inv X pins σ H s) (hex : X.ex = []) (os : s'.os = s.os) (bare : AllBare s'.gens) (un : Un (frs X.stack) [] H H' s.heap s'.heap) (hok : HOk X.prog X.w H' s'.heap) (b1 : B.StaysIn s'.heap) (b2 : B.StaysIn h')
    (inB : ∀ b o, s.heap.get? b = some o → b ∉ frs X.stack → ∃ o', B.get? b = some o') (up : s'.heap.UpToSlots h') :
    Un X.fs [] X.H₀ H' X.s₀.heap h' ∧ ∀ b o, X.s₀.heap.get? b = some o → b ∉ X.fs → ∃ o', B.get? b = some o' := by
  have I' : Inv X pins σ H' s' := I.call' os un hok bare (fun b z => absurd z (by simp))
  have hb := I'.base
  rw [hex] at hb
  have hb0 := I.base
  rw [hex] at hb0
  have in0 : ∀ b o, X.s₀.heap.get? b = some o → b ∉ X.fs → ∃ o', B.get? b = some o' := fun b o e n => by
    obtain ⟨o1, e1⟩ := hb0.there b o e (by simp)
    refine inB b o1 e1 fun z => ?_
    rcases List.mem_cons.mp (I.stkSub b z) with z | z
    · exact absurd (Nat.lt_of_lt_of_le (Heap.lt_size e) I.ok.above) (by rw [z]; exact Nat.lt_irrefl _)
    · exact n z
  refine ⟨⟨fun b o e n hf hx => ?_, fun b o e n hf hx => ?_, fun b o e n hx => hb.free b o e n hx, fun b o e hx => ?_, hb.tups, hb.frzs, hb.tbls⟩, in0⟩
  · have e1 := hb.keep b o e n hf (by simp)
    obtain ⟨o', e'⟩ := in0 b o e hf
    have z := b1 b o' e'
    rw [e1] at z; cases z
    exact b2 b _ e'
  · obtain ⟨sl, e1⟩ := hb.slot b o e n hf (by simp)
    obtain ⟨_, o2, e2, nf⟩ := I.ok.funs.mem hf
    rw [e] at e2; cases e2
    obtain ⟨sl', e3⟩ := up b _ e1 nf
    exact ⟨sl', e3⟩
  · by_cases hf : b ∈ X.fs
    · obtain ⟨sl, e1⟩ := hb.slot b o e (I.ok.frf b hf) hf (by simp)
      obtain ⟨_, o2, e2, nf⟩ := I.ok.funs.mem hf
      rw [e] at e2; cases e2
      obtain ⟨sl', e3⟩ := up b _ e1 nf
      exact ⟨_, e3⟩
    · obtain ⟨o', e'⟩ := in0 b o e hf
      exact ⟨o', b2 b o' e'⟩
theorem pass_leave {E : XK} {e : Value} {Eb : Value → Shared → Prop} (I : Inv X pins σ H s) (hex : X.ex = []) (hst : X.stack = X.env :: X.outer) (hfr : X.env.frame = some X.env.locals)
    (h : CX1 X.prog X.w X.stack H s E e s') : wpAny (model X.prog X.w) X.A (leaving X.env e) (fun _ s'' => CX1 X.prog X.w X.outer X.H₀ X.s₀ E e s'') Eb s' := by
  obtain ⟨a, C, H', B, rfl, os, bare, un, hok, air, inB, trk, hE⟩ := h
  refine air_leave (by rw [I.ok.frames, hst]) hfr (by rw [← hst]; exact air) fun h' air' up => ?_
  obtain ⟨un', in0⟩ := un_air I hex os bare un hok air.1 air'.1 inB up
  exact ⟨a, C, H', B, rfl, os.trans I.os, bare, un', hok_air hok air.1 air'.1 trk, air', in0, trk, hE⟩
theorem Inv.landed (I : Inv X pins σ H s) (hex : X.ex = []) (os : s'.os = s.os) (bare : AllBare s'.gens) (un : Un (frs X.stack) [] H H' s.heap s'.heap) (hok : HOk X.prog X.w H' s'.heap) (b1 : B.StaysIn s'.heap) (b2 : B.StaysIn h')
    (inB : ∀ b o, s.heap.get? b = some o → b ∉ frs X.stack → ∃ o', B.get? b = some o') (trk : ∀ b u, H' b = some u → ∃ o', B.get? b = some o') (up : s'.heap.UpToSlots h') {t' : Nat} : Inv X pins σ H' { s' with heap := h', toks := t' } := by
  have I' : Inv X pins σ H' s' := I.call' os un hok bare (fun b z => absurd z (by simp))
  obtain ⟨un', in0⟩ := un_air I hex os bare un hok b1 b2 inB up
  have cl : ∀ {c v}, s'.heap.IsCell c v → h'.IsCell c v := fun {c v} ⟨o, ho, hd⟩ => by
    obtain ⟨sl, e⟩ := up c o ho (fun vs z => by rw [hd] at z; cases z)
    exact ⟨_, e, hd⟩
  refine ⟨I.ok, I'.os, bare, by rw [hex]; exact un', ?_, fun x c e => ?_, I'.free, I'.freeC, fun p hp => ?_, hok_air hok b1 b2 trk, I.len⟩
  · obtain ⟨m, hn, hl⟩ := I'.loc
    refine ⟨m, up.ns hn, fun i x v e1 e2 e3 => ?_⟩
    obtain ⟨u, r, l⟩ := hl i x v e1 e2 e3
    refine ⟨u, r, ?_⟩
    rcases l with l | ⟨k, c, e, z⟩
    · exact .inl l
    · exact .inr ⟨k, c, e, cl z⟩
  · obtain ⟨v, z⟩ := I'.cell x c e
    exact ⟨v, cl z⟩
  · obtain ⟨e, n, ne, nf, d⟩ := I.pin p hp
    obtain ⟨e', n', _, _, _⟩ := I'.pin p hp
    refine ⟨?_, n', ne, nf, d⟩
    obtain ⟨o', q⟩ := inB p.1 p.2 e fun z => by
      rcases List.mem_cons.mp (I.stkSub p.1 z) with z | z
      · exact ne z
      · exact nf z
    have z := b1 p.1 o' q
    rw [e'] at z; cases z
    exact b2 p.1 _ q
end

def ExcC (K : PySem.W.Frag) (C : Addr) : Prop := PySem.W.excIn K C [.type "ValueError", .type "Exception", .type "BaseException", .type "object"] "ValueError.__new__" = true

theorem excC_obj {K : PySem.W.Frag} {h : Heap} {C : Addr} (X : K.In h) (q : ExcC K C) :
    ∃ bm N nm qn bs hdct sn sub ab col dd k0 k1 k2 k3 k5 mN, h.get? C = some (excClassObj nm qn C N bs bm hdct sn sub ab col dd k0 k1 k2 k3 k5 "ValueError.__new__") ∧ h.Ns N mN ∧ mN "__init__" = none ∧
      OwnTail h [.type "ValueError", .type "Exception", .type "BaseException", .type "object"] bm := by
  unfold ExcC PySem.W.excIn at q
  split at q
  · rename_i dd cd sl ho
    split at q
    · rename_i C' bm k0 k1 k2 k3 n k5 hm hs
      simp only [Bool.and_eq_true, beq_iff_eq, Bool.not_eq_true'] at q
      obtain ⟨⟨⟨⟨⟨rfl, rfl⟩, hdel⟩, ht⟩, hok⟩, hni⟩ := q
      obtain ⟨nm, bs, mro, ns, qn, hd, sn, sub, ab, col, del⟩ := cd
      dsimp only at hm hdel hok hni
      subst hm hdel
      obtain rfl : sl = #[k0, k1, k2, k3, some (.builtin "ValueError.__new__"), k5] := by
        cases sl
        simp only at hs
        rw [hs]
      exact ⟨bm, ns, nm, qn, bs, hd, sn, sub, ab, col, dd, k0, k1, k2, k3, k5, _, X _ _ ho, .of_isNs (PySem.W.isNs_of_in X hok), PySem.W.nsMap_none_of_in X hok hni, PySem.W.tail_of_in X ht⟩
    · cases q
  · cases q

abbrev vMro : List Value := [.type "ValueError", .type "Exception", .type "BaseException", .type "object"]
def excB (K : PySem.W.Frag) (C : Addr) : Bool := match K.lookup C with
  | some ⟨.type "type", _, .cls cd, sl⟩ => (match cd.mro, sl.toList with
    | .ref C' :: bm, [_, _, _, _, some (.builtin n), _] => C' == C && n == "ValueError.__new__" && !cd.hasDel && PySem.W.tailIn K vMro bm
    | _, _ => false)
  | _ => false
theorem excB_obj {K : PySem.W.Frag} {h : Heap} {C : Addr} (X : K.In h) (q : excB K C = true) :
    ∃ bm N nm qn bs hdct sn sub ab col dd k0 k1 k2 k3 k5, h.get? C = some (excClassObj nm qn C N bs bm hdct sn sub ab col dd k0 k1 k2 k3 k5 "ValueError.__new__") ∧ OwnTail h vMro bm ∧ PySem.W.tailIn K vMro bm = true ∧
      ∃ cd, PySem.W.clsIn K C = some cd ∧ cd.mro = .ref C :: bm := by
  unfold excB at q
  split at q
  · rename_i dd cd sl ho
    split at q
    · rename_i C' bm k0 k1 k2 k3 n k5 hm hs
      simp only [Bool.and_eq_true, beq_iff_eq, Bool.not_eq_true'] at q
      obtain ⟨⟨⟨rfl, rfl⟩, hdel⟩, ht⟩ := q
      have hcl : PySem.W.clsIn K C' = some cd := by unfold PySem.W.clsIn; rw [ho]
      have hm0 := hm
      obtain ⟨nm, bs, mro, ns, qn, hd, sn, sub, ab, col, del⟩ := cd
      dsimp only at hm hdel
      subst hm hdel
      obtain rfl : sl = #[k0, k1, k2, k3, some (.builtin "ValueError.__new__"), k5] := by
        cases sl
        simp only at hs
        rw [hs]
      exact ⟨bm, ns, nm, qn, bs, hd, sn, sub, ab, col, dd, k0, k1, k2, k3, k5, X _ _ ho, PySem.W.tail_of_in X ht, ht, _, hcl, hm0⟩
    · cases q
  · cases q
def ExcK (K : PySem.W.Frag) (C : Addr) : Prop := excB K C = true
section
variable {X : Cx} {pins : List (Addr × Obj)} {σ : St} {H : Hp} {s : Shared}
end
end L3

namespace L3
open PySem PySem.Spec PyProof.Rows L2

abbrev G2 := List Slot
abbrev XW := G2 → Value → Prop
abbrev TE2 := G2 → (D → G2 → Prop) → XW → Prop
abbrev TF2 := G2 → (List D → G2 → Prop) → XW → Prop
abbrev TT2 := G2 → (Bool → G2 → Prop) → XW → Prop
structure End2 where
  nx : G2 → Prop
  rt : D → Prop
  bk : G2 → Prop := fun _ => False
  ct : G2 → Prop := fun _ => False
  rf : D → Prop := fun _ => False
  rT : T → Prop := fun _ => False
abbrev TS2 := End2 → G2 → XW → Prop

def lessL (F0 F : Hp) : Hp := fun b => match F0 b with | some (.lst _) => none | some (.dK _) => none | _ => F b
theorem lessL_sub {F0 F : Hp} : Same (lessL F0 F) F := fun b u e => by
  unfold lessL at e
  split at e
  · cases e
  · cases e
  · exact e
theorem lessL_not {F0 F : Hp} {b : Addr} (h : ∀ u, LD u → F0 b ≠ some u) : lessL F0 F b = F b := by
  unfold lessL
  split
  · rename_i q; exact absurd q (h _ (.inl ⟨_, rfl⟩))
  · rename_i q; exact absurd q (h _ (.inr ⟨_, rfl⟩))
  · rfl
theorem lessL_of {F0 F : Hp} {b : Addr} {u : HO} (e : lessL F0 F b = some u) : ∀ w, LD w → F0 b ≠ some w := fun w hw q => by
  unfold lessL at e
  rcases hw with ⟨vs, rfl⟩ | ⟨kvs, rfl⟩
  · rw [q] at e; cases e
  · rw [q] at e; cases e
theorem lessL_anti {F0 F1 F : Hp} (s : Same F0 F1) : Same (lessL F1 F) (lessL F0 F) := fun b u e => by
  rw [lessL_not fun w hw q => lessL_of e w hw (s _ _ q)]
  exact lessL_sub _ _ e
theorem lessL_cut {F0 F : Hp} (s : Same F0 F) : ∀ b u, F b = some u → LD u ∨ lessL F0 F b = some u := fun b u e => by
  by_cases h : ∃ w, LD w ∧ F0 b = some w
  · obtain ⟨w, hw, q⟩ := h
    have := s _ _ q
    rw [e] at this; cases this
    exact .inl hw
  · exact .inr (by rw [lessL_not fun w hw q => h ⟨w, hw, q⟩]; exact e)

section
variable (K : PySem.W.Frag) (F0 H0 : Hp)
def upE (t : TE2) (E : XW) : TE := fun σ H Q => ∃ F Γ P, SR K F0 H0 F H σ Γ ∧ t Γ P E ∧ ∀ d Γ' F' H' v, SR K F0 H0 F' H' σ Γ' → Same F F' → Rep K F' d v → P d Γ' → Q v H'
def upT (t : TT2) (E : XW) : TT := fun σ H Q => ∃ F Γ P, SR K F0 H0 F H σ Γ ∧ t Γ P E ∧ ∀ b Γ' F' H', SR K F0 H0 F' H' σ Γ' → Same F F' → P b Γ' → Q b H'
def upA (t : TF2) (E : XW) : TA := fun σ H Q => ∃ F Γ P, SR K F0 H0 F H σ Γ ∧ t Γ P E ∧ ∀ ds Γ' F' H' vs, SR K F0 H0 F' H' σ Γ' → Same F F' → Reps K F' ds vs → P ds Γ' → Q vs H'
def upF (t : TF2) (E : XW) : TE := fun σ H Q => ∃ F Γ P, SR K F0 H0 F H σ Γ ∧ t Γ P E ∧ ∀ ds Γ' F' H' a vs, SR K F0 H0 F' H' σ Γ' → Same F F' → H' a = some (.lst vs) → F' a = none → H0 a = none → Reps K F' ds vs → Apart σ Γ' a → P ds Γ' → Q (.ref a) H'
structure EndR (F : Hp) (D2 : End2) (D : Ends) : Prop where
  nx : ∀ Γ F' H σ, SR K F0 H0 F' H σ Γ → Same F F' → D2.nx Γ → D.nx σ H
  bk : ∀ Γ F' H σ, SR K F0 H0 F' H σ Γ → Same F F' → D2.bk Γ → D.bk σ H
  ct : ∀ Γ F' H σ, SR K F0 H0 F' H σ Γ → Same F F' → D2.ct Γ → D.ct σ H
  rt : ∀ d v F' H, Gr F0 H0 F' H → Rep K F' d v → D2.rt d → D.rt v H
  rf : ∀ d v F' H, Gr F0 H0 F' H → Rep K (lessL F0 F') d v → D2.rf d → D.rt v H
  rT : ∀ t v as F' H, Gr F0 H0 F' H → as.Nodup → (∀ a ∈ as, F' a = none ∧ H0 a = none) → TR K F' H t v as → D2.rT t → D.rt v H
def upS (t : TS2) (E : XW) : TS := fun D σ H => ∃ F Γ D2, SR K F0 H0 F H σ Γ ∧ t D2 Γ E ∧ EndR K F0 H0 F D2 D
end
theorem EndR.mono {K : PySem.W.Frag} {F0 H0 F F' : Hp} {D2 : End2} {D : Ends} (k : EndR K F0 H0 F D2 D) (s : Same F F') : EndR K F0 H0 F' D2 D :=
  ⟨fun Γ F1 H σ R s1 h => k.nx Γ F1 H σ R (s.trans s1) h, fun Γ F1 H σ R s1 h => k.bk Γ F1 H σ R (s.trans s1) h, fun Γ F1 H σ R s1 h => k.ct Γ F1 H σ R (s.trans s1) h, k.rt, k.rf, k.rT⟩

structure Wsh where
  xe : Value → Shared → Prop
  pn : List (Addr × Obj)
abbrev _root_.L2.Cx.wsh (X : Cx) (z : Wsh) : Cx := { X with xe := z.xe, pn := z.pn }
structure Ctx (X : Cx) (F0 H0 : Hp) (E : XW) : Prop where
  px : ∀ pins σ Γ F H s e s', Inv X pins σ H s → SR X.K F0 H0 F H σ Γ → CX1 X.prog X.w X.stack H s (fun C dx H' => E Γ C ∧ dx = none ∧ Same H H') e s' → X.xe e s'
  po : PassesOwn (model X.prog X.w) X.A X.env X.xe

def QE (X : Cx) (F0 H0 : Hp) (e : Expr) (t : TE2) : Prop := ∀ z E, Ctx (X.wsh z) F0 H0 E → PE (X.wsh z) e (upE X.K F0 H0 t E)
def QF (X : Cx) (F0 H0 : Hp) (e : Expr) (t : TF2) : Prop := ∀ z E, Ctx (X.wsh z) F0 H0 E → PE (X.wsh z) e (upF X.K F0 H0 t E)
def QT (X : Cx) (F0 H0 : Hp) (e : Expr) (t : TT2) : Prop := ∀ z E, Ctx (X.wsh z) F0 H0 E → PT (X.wsh z) e (upT X.K F0 H0 t E)
def QW (X : Cx) (F0 H0 : Hp) (e : Expr) (t : TT2) : Prop := ∀ z E, Ctx (X.wsh z) F0 H0 E → PW (X.wsh z) e (upT X.K F0 H0 t E)
def QA (X : Cx) (F0 H0 : Hp) (es : List Expr) (t : TF2) : Prop := ∀ z E, Ctx (X.wsh z) F0 H0 E → PA (X.wsh z) es (upA X.K F0 H0 t E)
def QS (X : Cx) (F0 H0 : Hp) (st : Stmt) (t : TS2) : Prop := ∀ z E, Ctx (X.wsh z) F0 H0 E → PS (X.wsh z) st (upS X.K F0 H0 t E)
def QSs (X : Cx) (F0 H0 : Hp) (st : List Stmt) (t : TS2) : Prop := ∀ z E, Ctx (X.wsh z) F0 H0 E → PSs (X.wsh z) st (upS X.K F0 H0 t E)

section
variable {X : Cx} {e : Expr} {es : List Expr} {st : Stmt} {sts : List Stmt}
theorem peC {t t' : TE} (h : PE X e t) (hi : ∀ σ H Q, t' σ H Q → t σ H Q) : PE X e t' := fun pins s σ H Q I q => h pins s σ H Q I (hi _ _ _ q)
theorem ptC {t t' : TT} (h : PT X e t) (hi : ∀ σ H Q, t' σ H Q → t σ H Q) : PT X e t' := fun pins s σ H Q I q => h pins s σ H Q I (hi _ _ _ q)
theorem pwC {t t' : TT} (h : PW X e t) (hi : ∀ σ H Q, t' σ H Q → t σ H Q) : PW X e t' := fun w pins s σ H Q I q => h w pins s σ H Q I (hi _ _ _ q)
theorem paC {t t' : TA} (h : PA X es t) (hi : ∀ σ H Q, t' σ H Q → t σ H Q) : PA X es t' := fun p pins s σ H Q I q => h p pins s σ H Q I (hi _ _ _ q)
theorem psC {t t' : TS} (h : PS X st t) (hi : ∀ D σ H, t' D σ H → t D σ H) : PS X st t' := fun pins s σ H D I q => h pins s σ H D I (hi _ _ _ q)
theorem pssC {t t' : TS} (h : PSs X sts t) (hi : ∀ D σ H, t' D σ H → t D σ H) : PSs X sts t' := fun pins s σ H D I q => h pins s σ H D I (hi _ _ _ q)
end

section
variable {X : Cx} {F0 H0 : Hp} {a b c e : Expr} {es : List Expr} {pos : Pos} {ta tb tc te : TE2}

def cC (d : D) : TE2 := fun Γ P _ => P d Γ
theorem qe_const {d : D} {v : V} (h : ∀ z, PE (X.wsh z) e (tC v)) (r : ∀ F, Rep X.K F d v) : QE X F0 H0 e (cC d) := fun z E cx =>
  peC (h z) fun σ H Q ⟨F, Γ, P, R, h, k⟩ => k _ _ _ _ _ R (.refl _) (r F) h
theorem qe_int {i j pos} : QE X F0 H0 (.Constant (.int i) j pos) (cC (.int i)) := qe_const (fun _ => pe_int) fun _ => by unfold Rep; rfl
theorem qe_bl {i j pos} : QE X F0 H0 (.Constant (.bool i) j pos) (cC (.bl i)) := qe_const (fun _ => pe_bl) fun _ => by unfold Rep; rfl
theorem qe_non {j pos} : QE X F0 H0 (.Constant .none j pos) (cC .non) := qe_const (fun _ => pe_non) fun _ => by unfold Rep; rfl
def cV (i : Nat) : TE2 := fun Γ P _ => match Γ[i]? with
  | some (.pu d) => P d Γ
  | some (.ow ds) => P (.lst ds) (Γ.set i (.pu (.lst ds)))
  | _ => False
theorem qe_var {i : Nat} {x : Str} (hN : X.N[i]? = some x) (hv : Vis X.env.scope x) (hd : (x == ("__debug__" : Str)) = false := by decide) (hcd : (x == ("__classdict__" : Str)) = false := by decide) : QE X F0 H0 (.Name x pos) (cV i) := fun z E cx =>
  peC (pe_var (X := X.wsh z) (i := i) hN hv hd hcd) fun σ H Q ⟨F, Γ, P, R, h, k⟩ => by
    unfold cV at h
    split at h
    · rename_i d e
      obtain ⟨o, e1, v, rfl, r⟩ := R.sl i _ e
      exact ⟨v, e1, k d Γ F H v R (.refl _) r h⟩
    · rename_i ds e
      obtain ⟨a, F', e1, s1, R', r⟩ := R.frz e
      exact ⟨.ref a, e1, k _ _ F' H _ R' s1 r h⟩
    · exact h.elim

def rUp (K : PySem.W.Frag) (g : D → D → (D → Prop) → Prop) : R2 := fun x y H Q => ∃ F d1 d2 P, Same F H ∧ Rep K F d1 x ∧ Rep K F d2 y ∧ g d1 d2 P ∧ ∀ d z F' H', Gr F H F' H' → Rep K F' d z → P d → Q z H'
def cB (g : D → D → (D → Prop) → Prop) (ta tb : TE2) : TE2 := fun Γ P E => ta Γ (fun d1 Γ1 => tb Γ1 (fun d2 Γ2 => g d1 d2 fun d => P d Γ2) E) E
theorem cB_up {K : PySem.W.Frag} {g : D → D → (D → Prop) → Prop} {E : XW} {σ : St} {H : Hp} {Q : VK} (h : upE K F0 H0 (cB g ta tb) E σ H Q) : tOp (rUp K g) (upE K F0 H0 ta E) (upE K F0 H0 tb E) σ H Q := by
  obtain ⟨F, Γ, P, R, h, k⟩ := h
  refine ⟨F, Γ, _, R, h, fun d1 Γ1 F1 H1 v1 R1 s1 r1 h1 => ⟨F1, Γ1, _, R1, h1, fun d2 Γ2 F2 H2 v2 R2 s2 r2 h2 => ⟨F2, d1, d2, _, R2.g, r1.up s2, r2, h2, fun d z F' H' gr rz hp => ?_⟩⟩⟩
  exact k d Γ2 F' H' z (R2.grow gr) (s1.trans (s2.trans gr.f)) rz hp
theorem qe_bin {op : Operator} {g : D → D → (D → Prop) → Prop} (ho : ∀ z, OpR (X.wsh z) (binaryOp op) (rUp X.K g)) (ha : QE X F0 H0 a ta) (hb : QE X F0 H0 b tb) : QE X F0 H0 (.BinOp a op b pos) (cB g ta tb) := fun z E cx =>
  peC (pe_op (ho z) (ha z E cx) (hb z E cx)) fun _ _ _ h => cB_up h
theorem qe_cmp {op : CmpOp} {g : D → D → (D → Prop) → Prop} (ho : ∀ z, OpR (X.wsh z) (compareOp op) (rUp X.K g)) (ha : QE X F0 H0 a ta) (hb : QE X F0 H0 b tb) (hm : behindInMarks op b = false) : QE X F0 H0 (.Compare a [op] [b] pos) (cB g ta tb) := fun z E cx =>
  peC (pe_cmpR (ho z) (ha z E cx) (hb z E cx) hm) fun _ _ _ h => cB_up h
def cT (t : TE2) : TT2 := fun Γ P E => t Γ (fun d Γ' => match d with | .bl c => P c Γ' | _ => False) E
theorem cT_up {K : PySem.W.Frag} {E : XW} {σ : St} {H : Hp} {Q : Bool → Hp → Prop} (h : upT K F0 H0 (cT te) E σ H Q) : upE K F0 H0 te E σ H fun x H' => ∃ c, x = .bl c ∧ Q c H' := by
  obtain ⟨F, Γ, P, R, h, k⟩ := h
  refine ⟨F, Γ, _, R, h, fun d Γ' F' H' v R' s' r q => ?_⟩
  cases d with
  | bl c =>
    unfold Rep at r
    exact ⟨c, r, k c Γ' F' H' R' s' q⟩
  | _ => exact False.elim q
theorem qt_cmp {op : CmpOp} {g : D → D → (D → Prop) → Prop} (ho : ∀ z, OpR (X.wsh z) (compareOp op) (rUp X.K g)) (ha : QE X F0 H0 a ta) (hb : QE X F0 H0 b tb) (hm : behindInMarks op b = false) : QT X F0 H0 (.Compare a [op] [b] pos) (cT (cB g ta tb)) := fun z E cx =>
  ptC (pt_cmpR (ho z) (ha z E cx) (hb z E cx) hm) fun σ H Q h => cB_up (cT_up h)
theorem qt_val (h : QE X F0 H0 e te) (he : ∀ whole, isTrue e X.env whole = (do let v ← whole; standAt e.pos; holding [v] (truthy v)) := by intro _; rfl) : QT X F0 H0 e (cT te) := fun z E cx =>
  ptC (pt_val (X := X.wsh z) (h z E cx) he) fun _ _ _ h => cT_up h

def cAnd (t u : TT2) : TT2 := fun Γ P E => t Γ (fun c Γ' => if c = true then u Γ' P E else P false Γ') E
def cOr (t u : TT2) : TT2 := fun Γ P E => t Γ (fun c Γ' => if c = true then P true Γ' else u Γ' P E) E
def cNot (t : TT2) : TT2 := fun Γ P E => t Γ (fun c Γ' => P (!c) Γ') E
variable {rest : List Expr} {tA tB' : TT2}
theorem qw_and1 (ha : QT X F0 H0 a tA) : QW X F0 H0 (.BoolOp .And [a] pos) tA := fun z E cx => pw_and1 (ha z E cx)
theorem qw_or1 (ha : QT X F0 H0 a tA) : QW X F0 H0 (.BoolOp .Or [a] pos) tA := fun z E cx => pw_or1 (ha z E cx)
theorem qw_and (ha : QT X F0 H0 a tA) (hb : QW X F0 H0 (.BoolOp .And (b :: rest) pos) tB') : QW X F0 H0 (.BoolOp .And (a :: b :: rest) pos) (cAnd tA tB') := fun z E cx =>
  pwC (pw_and (ha z E cx) (hb z E cx)) fun σ H Q ⟨F, Γ, P, R, h, k⟩ => ⟨F, Γ, _, R, h, fun c Γ1 F1 H1 R1 s1 q => by
    cases c with
    | true =>
      simp only [if_true] at q ⊢
      exact ⟨F1, Γ1, P, R1, q, fun b Γ2 F2 H2 R2 s2 p => k b Γ2 F2 H2 R2 (s1.trans s2) p⟩
    | false =>
      simp only [Bool.false_eq_true, if_false] at q ⊢
      exact k _ _ _ _ R1 s1 q⟩
theorem qw_or (ha : QT X F0 H0 a tA) (hb : QW X F0 H0 (.BoolOp .Or (b :: rest) pos) tB') : QW X F0 H0 (.BoolOp .Or (a :: b :: rest) pos) (cOr tA tB') := fun z E cx =>
  pwC (pw_or (ha z E cx) (hb z E cx)) fun σ H Q ⟨F, Γ, P, R, h, k⟩ => ⟨F, Γ, _, R, h, fun c Γ1 F1 H1 R1 s1 q => by
    cases c with
    | true =>
      simp only [if_true] at q ⊢
      exact k _ _ _ _ R1 s1 q
    | false =>
      simp only [Bool.false_eq_true, if_false] at q ⊢
      exact ⟨F1, Γ1, P, R1, q, fun b Γ2 F2 H2 R2 s2 p => k b Γ2 F2 H2 R2 (s1.trans s2) p⟩⟩
theorem qt_w (h : QW X F0 H0 e tA) : QT X F0 H0 e tA := fun z E cx => (h z E cx).pt
theorem qt_not (ha : QT X F0 H0 a tA) : QT X F0 H0 (.UnaryOp .Not a pos) (cNot tA) := fun z E cx =>
  ptC (pt_not (ha z E cx)) fun σ H Q ⟨F, Γ, P, R, h, k⟩ => ⟨F, Γ, _, R, h, fun c Γ1 F1 H1 R1 s1 q => k _ _ _ _ R1 s1 q⟩
def cAndV (ta tb : TE2) : TE2 := fun Γ P E => ta Γ (fun d Γ' => match d with | .bl true => tb Γ' P E | .bl false => P (.bl false) Γ' | _ => False) E
def cOrV (ta tb : TE2) : TE2 := fun Γ P E => ta Γ (fun d Γ' => match d with | .bl false => tb Γ' P E | .bl true => P (.bl true) Γ' | _ => False) E
def cNotV (ta : TE2) : TE2 := fun Γ P E => ta Γ (fun d Γ' => match d with | .bl c => P (.bl (!c)) Γ' | _ => False) E
def cIf (t : TT2) (ta tb : TE2) : TE2 := fun Γ P E => t Γ (fun c Γ' => if c = true then ta Γ' P E else tb Γ' P E) E
def cNil : TF2 := fun Γ P _ => P [] Γ
def cCons (t : TE2) (u : TF2) : TF2 := fun Γ P E => t Γ (fun d Γ1 => u Γ1 (fun ds Γ2 => P (d :: ds) Γ2) E) E
theorem qa_nil : QA X F0 H0 [] cNil := fun z E cx => paC pa_nil fun σ H Q ⟨F, Γ, P, R, h, k⟩ => k _ _ _ _ _ R (.refl _) (by unfold Reps; rfl) h
theorem qa_cons {tr : TF2} (ha : QE X F0 H0 e te) (hr : QA X F0 H0 es tr) (hs : starEach (e :: es) X.env = (false, eval e X.env) :: starEach es X.env := by rfl) : QA X F0 H0 (e :: es) (cCons te tr) := fun z E cx =>
  paC (pa_cons (X := X.wsh z) (ha z E cx) (hr z E cx) hs) fun σ H Q ⟨F, Γ, P, R, h, k⟩ =>
    ⟨F, Γ, _, R, h, fun d Γ1 F1 H1 v1 R1 s1 r1 h1 => ⟨F1, Γ1, _, R1, h1, fun ds Γ2 F2 H2 vs R2 s2 r2 h2 => k _ _ _ _ _ R2 (s1.trans s2) (reps_cons (r1.up s2) r2) h2⟩⟩
def cTup (t : TF2) : TE2 := fun Γ P E => t Γ (fun ds Γ1 => ds.length ≤ sizeLine ∧ P (.tup ds) Γ1) E
theorem qe_tup {x1} {t : TF2} (h : QA X F0 H0 es t) : QE X F0 H0 (.Tuple es x1 pos) (cTup t) := fun z E cx =>
  peC (pe_tup (h z E cx)) fun σ H Q ⟨F, Γ, P, R, h, k⟩ => ⟨F, Γ, _, R, h, fun ds Γ1 F1 H1 vs R1 s1 r1 h1 => ⟨by rw [← reps_len r1]; exact h1.1, fun p hp => by
    have gr := Gr.laid (o := HO.tup vs) R1.g hp
    refine k _ _ _ _ _ (R1.grow gr) (s1.trans gr.f) ?_ h1.2
    unfold Rep
    exact ⟨p, vs, rfl, .inl (.inl upd_same), r1.up gr.f⟩⟩⟩
def fLst (t : TF2) : TF2 := fun Γ P E => t Γ (fun ds Γ1 => ds.length ≤ sizeLine ∧ P ds Γ1) E
theorem new_lst {K : PySem.W.Frag} {F H : Hp} {σ : St} {Γ : G2} {p : Addr} {vs : List V} {ds : List D} (R : SR K F0 H0 F H σ Γ) (hp : H p = none) (r : Reps K F ds vs) :
    SR K F0 H0 F (L2.upd H p (.lst vs)) σ Γ ∧ (L2.upd H p (.lst vs)) p = some (.lst vs) ∧ F p = none ∧ H0 p = none ∧ Apart σ Γ p := by
  refine ⟨?_, upd_same, R.g.free hp, R.gr.h.free hp, R.apart hp⟩
  refine R.grow ⟨.refl _, fun b u e => ?_, fun b u e => ?_, fun b o e n => by rw [e] at n; cases n⟩
  · rw [upd_ne (ne_of_none (R.g b u e) hp)]; exact R.g b u e
  · rw [upd_ne (ne_of_none e hp)]; exact e
theorem qf_lst {t : TF2} (h : QA X F0 H0 es t) : QF X F0 H0 (.List es pos) (fLst t) := fun z E cx =>
  peC (pe_lst (h z E cx)) fun σ H Q ⟨F, Γ, P, R, h, k⟩ => ⟨F, Γ, _, R, h, fun ds Γ1 F1 H1 vs R1 s1 r1 h1 => ⟨by rw [← reps_len r1]; exact h1.1, fun p hp => by
    obtain ⟨R2, e1, e2, e3, ap⟩ := new_lst R1 hp r1
    exact k ds Γ1 F1 _ p vs R2 s1 e1 e2 e3 r1 ap h1.2⟩⟩
def cOf (t : TF2) : TE2 := fun Γ P E => t Γ (fun ds Γ1 => P (.lst ds) Γ1) E
theorem qe_of {t : TF2} (h : QF X F0 H0 e t) : QE X F0 H0 e (cOf t) := fun z E cx =>
  peC (h z E cx) fun σ H Q ⟨F, Γ, P, R, h, k⟩ => ⟨F, Γ, _, R, h, fun ds Γ1 F1 H1 a vs R1 s1 e1 e2 e3 r1 ap h1 => by
    obtain ⟨s2, _⟩ := frz_gr R1.g e1 e2
    refine k _ _ _ _ _ (R1.frzA e1 e2 e3 ap) (s1.trans s2) ?_ h1
    unfold Rep
    exact ⟨a, vs, rfl, .inl (.inl upd_same), r1.up s2⟩⟩

variable {st : Stmt} {sts : List Stmt} {t u : TS2}
def cNext : TS2 := fun D Γ _ => D.nx Γ
def cSeq (t u : TS2) : TS2 := fun D Γ E => t { D with nx := fun Γ' => u D Γ' E } Γ E
theorem qss_nil : QSs X F0 H0 [] cNext := fun z E cx => pssC pss_nil fun D σ H ⟨F, Γ, D2, R, h, k⟩ => k.nx _ _ _ _ R (.refl _) h
theorem qss_cons (h1 : QS X F0 H0 st t) (h2 : QSs X F0 H0 sts u) : QSs X F0 H0 (st :: sts) (cSeq t u) := fun z E cx =>
  pssC (pss_cons (h1 z E cx) (h2 z E cx)) fun D σ H ⟨F, Γ, D2, R, h, k⟩ => ⟨F, Γ, _, R, h, ⟨fun Γ' F' H' σ' R' s' q => ⟨F', Γ', D2, R', q, k.mono s'⟩, k.bk, k.ct, k.rt, k.rf, k.rT⟩⟩
theorem qss_one (h1 : QS X F0 H0 st t) : QSs X F0 H0 [st] t := fun z E cx => pss_one (h1 z E cx)
def cBrk : TS2 := fun D Γ _ => D.bk Γ
def cCnt : TS2 := fun D Γ _ => D.ct Γ
def cDrop (te : TE2) : TS2 := fun D Γ E => te Γ (fun _ Γ1 => D.nx Γ1) E
def cRet (te : TE2) : TS2 := fun D Γ E => te Γ (fun d _ => D.rt d) E
theorem qs_ret (he : QE X F0 H0 e te) : QS X F0 H0 (.Return (some e) pos) (cRet te) := fun z E cx =>
  psC (ps_ret (he z E cx)) fun D σ H ⟨F, Γ, D2, R, h, k⟩ => ⟨F, Γ, _, R, h, fun d Γ1 F1 H1 v R1 s1 r1 h1 => k.rt _ _ _ _ R1.gr r1 h1⟩
def cRetN : TS2 := fun D _ _ => D.rt .non
def cIfS (c : TT2) (t u : TS2) : TS2 := fun D Γ E => c Γ (fun b Γ1 => if b = true then t D Γ1 E else u D Γ1 E) E
theorem qs_if {x y : List Stmt} (hc : QT X F0 H0 c tA) (ha : QSs X F0 H0 x t) (hb : QSs X F0 H0 y u) : QS X F0 H0 (.If c x y pos) (cIfS tA t u) := fun z E cx =>
  psC (ps_if (hc z E cx) (ha z E cx) (hb z E cx)) fun D σ H ⟨F, Γ, D2, R, h, k⟩ => ⟨F, Γ, _, R, h, fun c Γ1 F1 H1 R1 s1 q => by
    cases c with
    | true => rw [if_pos rfl] at q ⊢; exact ⟨F1, Γ1, D2, R1, q, k.mono s1⟩
    | false => rw [if_neg Bool.false_ne_true] at q ⊢; exact ⟨F1, Γ1, D2, R1, q, k.mono s1⟩⟩
def cNever : TS2 := fun _ _ _ => False
def cSet (i : Nat) (te : TE2) : TS2 := fun D Γ E => te Γ (fun d Γ1 => D.nx (Γ1.set i (.pu d))) E
theorem qs_set {i : Nat} {x : Str} {pos' : Pos} (hN : X.N.Nodup) (hi : X.N[i]? = some x) (hx : Loc X.env.scope x) (he : QE X F0 H0 e te) (hs : swapsWith e (some (.Name x pos')) pos.line X.env = pure false := by rfl)
    (hf : X.fn x = true ∨ X.env.scope.names.lookup x = some .local := by first | exact .inl rfl | exact .inr rfl) : QS X F0 H0 (.Assign [.Name x pos'] e pos) (cSet i te) := fun z E cx =>
  psC (ps_set (X := X.wsh z) (i := i) hN hi hx (he z E cx) hs hf) fun D σ H ⟨F, Γ, D2, R, h, k⟩ => ⟨F, Γ, _, R, h, fun d Γ1 F1 H1 v R1 s1 r1 h1 => k.nx _ _ _ _ (R1.set i r1) s1 h1⟩
def cSetF (i : Nat) (t : TF2) : TS2 := fun D Γ E => t Γ (fun ds Γ1 => D.nx (Γ1.set i (.ow ds))) E
theorem qs_setF {i : Nat} {x : Str} {pos' : Pos} {tf : TF2} (hN : X.N.Nodup) (hi : X.N[i]? = some x) (hx : Loc X.env.scope x) (he : QF X F0 H0 e tf) (hs : swapsWith e (some (.Name x pos')) pos.line X.env = pure false := by rfl)
    (hf : X.fn x = true ∨ X.env.scope.names.lookup x = some .local := by first | exact .inl rfl | exact .inr rfl) : QS X F0 H0 (.Assign [.Name x pos'] e pos) (cSetF i tf) := fun z E cx =>
  psC (ps_set (X := X.wsh z) (i := i) hN hi hx (he z E cx) hs hf) fun D σ H ⟨F, Γ, D2, R, h, k⟩ => ⟨F, Γ, _, R, h, fun ds Γ1 F1 H1 a vs R1 s1 e1 e2 e3 r1 ap h1 => k.nx _ _ _ _ (R1.setOw i e1 e2 e3 r1 ap) s1 h1⟩
end
end L3

namespace L3
open PySem PySem.Spec PyProof.Rows L2

abbrev TG2 := D → G2 → (G2 → Prop) → XW → Prop
abbrev TGs2 := List D → G2 → (G2 → Prop) → XW → Prop
section
variable (K : PySem.W.Frag) (F0 H0 : Hp)
def upG (g : TG2) (E : XW) : TG := fun v σ H Q => ∃ F Γ P d, SR K F0 H0 F H σ Γ ∧ Rep K F d v ∧ g d Γ P E ∧ ∀ Γ' F' H' σ', SR K F0 H0 F' H' σ' Γ' → Same F F' → P Γ' → Q σ' H'
def upGs (g : TGs2) (E : XW) : TGs := fun vs σ H Q => ∃ F Γ P ds, SR K F0 H0 F H σ Γ ∧ Reps K F ds vs ∧ g ds Γ P E ∧ ∀ Γ' F' H' σ', SR K F0 H0 F' H' σ' Γ' → Same F F' → P Γ' → Q σ' H'
end
def QG (X : Cx) (F0 H0 : Hp) (e : Expr) (g : TG2) : Prop := ∀ z E, Ctx (X.wsh z) F0 H0 E → PG (X.wsh z) e (upG X.K F0 H0 g E)
def QGs (X : Cx) (F0 H0 : Hp) (es : List Expr) (g : TGs2) : Prop := ∀ z E, Ctx (X.wsh z) F0 H0 E → PGs (X.wsh z) es (upGs X.K F0 H0 g E)
section
variable {X : Cx} {F0 H0 : Hp} {e tg : Expr} {es : List Expr} {pos : Pos} {te : TE2} {g : TG2} {gs : TGs2}
theorem pgC {t t' : TG} (h : PG X e t) (hi : ∀ v σ H Q, t' v σ H Q → t v σ H Q) : PG X e t' := fun pins s σ H v u Q I r q => h pins s σ H v u Q I r (hi _ _ _ _ q)
theorem pgsC {t t' : TGs} (h : PGs X es t) (hi : ∀ v σ H Q, t' v σ H Q → t v σ H Q) : PGs X es t' := fun pins s σ H v u Q I r q => h pins s σ H v u Q I r (hi _ _ _ _ q)
def hName (i : Nat) : TG2 := fun d Γ Q _ => Q (Γ.set i (.pu d))
theorem qg_name {i : Nat} {x : Str} (hN : X.N.Nodup) (hi : X.N[i]? = some x) (hx : Loc X.env.scope x) (hf : X.fn x = true ∨ X.env.scope.names.lookup x = some .local := by first | exact .inl rfl | exact .inr rfl) : QG X F0 H0 (.Name x pos) (hName i) := fun z E cx =>
  pgC (pg_name (X := X.wsh z) (i := i) hN hi hx hf) fun v σ H Q ⟨F, Γ, P, d, R, r, h, k⟩ => k _ _ _ _ (R.set i r) (.refl _) h
def hNil : TGs2 := fun ds Γ Q _ => ds = [] ∧ Q Γ
def hCons (g : TG2) (gs : TGs2) : TGs2 := fun ds Γ Q E => match ds with | d :: r => g d Γ (fun Γ' => gs r Γ' Q E) E | [] => False
theorem qgs_nil : QGs X F0 H0 [] hNil := fun z E cx => pgsC pgs_nil fun vs σ H Q ⟨F, Γ, P, ds, R, r, h, k⟩ => by
  obtain ⟨rfl, h⟩ := h
  unfold Reps at r
  exact ⟨r, k _ _ _ _ R (.refl _) h⟩
theorem qgs_cons (h1 : QG X F0 H0 e g) (h2 : QGs X F0 H0 es gs) (hs : (assignEach (e :: es) X.env).map (·.2) = assign e X.env :: (assignEach es X.env).map (·.2) := by rfl) : QGs X F0 H0 (e :: es) (hCons g gs) := fun z E cx =>
  pgsC (pgs_cons (X := X.wsh z) (h1 z E cx) (h2 z E cx) hs) fun vs σ H Q ⟨F, Γ, P, ds, R, r, h, k⟩ => by
    cases ds with
    | nil => exact False.elim h
    | cons d ds =>
      unfold Reps at r
      obtain ⟨v, us, rfl, r1, r2⟩ := r
      exact ⟨v, us, rfl, F, Γ, _, d, R, r1, h, fun Γ1 F1 H1 σ1 R1 s1 q => ⟨F1, Γ1, P, ds, R1, r2.up s1, q, fun Γ2 F2 H2 σ2 R2 s2 p => k _ _ _ _ R2 (s1.trans s2) p⟩⟩
def hTup (n : Nat) (gs : TGs2) : TG2 := fun d Γ Q E => match d with | .tup ds => ds.length = n ∧ gs ds Γ Q E | _ => False
theorem qg_tup {k n : Nat} (hc : X.calm = true) (h : QGs X F0 H0 es gs) (hn : (assignEach es X.env).length = n := by rfl) (hst : (assignEach es X.env).findIdx? (·.1) = none := by rfl) : QG X F0 H0 (.Tuple es k pos) (hTup n gs) := fun z E cx =>
  pgC (pg_tup (X := X.wsh z) (n := n) hc (h z E cx) hn hst) fun v σ H Q ⟨F, Γ, P, d, R, r, h, k⟩ => by
    cases d with
    | tup ds =>
      unfold Rep at r
      obtain ⟨a, vs, rfl, hq, rs⟩ := r
      exact ⟨a, vs, rfl, sqT_mono R.g hq, by rw [← reps_len rs]; exact h.1, F, Γ, P, ds, R, rs, h.2, k⟩
    | _ => exact False.elim h
def cAsg (te : TE2) (g : TG2) : TS2 := fun D Γ E => te Γ (fun d Γ1 => g d Γ1 D.nx E) E
theorem qs_asg (he : QE X F0 H0 e te) (hg : QG X F0 H0 tg g) (hs : swapsWithSole [tg] e pos.line X.env = pure false := by rfl) (hw : swappedStores [tg] e X.env = pure none := by rfl)
    (h1 : (assignEach [tg] X.env).map (·.2) = [assign tg X.env] := by rfl) : QS X F0 H0 (.Assign [tg] e pos) (cAsg te g) := fun z E cx =>
  psC (ps_asg (X := X.wsh z) (he z E cx) (hg z E cx) hs hw h1) fun D σ H ⟨F, Γ, D2, R, h, k⟩ => ⟨F, Γ, _, R, h, fun d Γ1 F1 H1 v R1 s1 r1 h1 => ⟨F1, Γ1, _, d, R1, r1, h1, fun Γ2 F2 H2 σ2 R2 s2 p => k.nx _ _ _ _ R2 (s1.trans s2) p⟩⟩
def cPar (i j : Nat) (t : TF2) : TS2 := fun D Γ E => t Γ (fun ds Γ1 => match ds with | [x, y] => D.nx ((Γ1.set i (.pu x)).set j (.pu y)) | _ => False) E
theorem qs_par {i j : Nat} {x y : Str} {a b : Expr} {t : TF2} {px py pt : Pos} {kt k2 pt2} (hc : X.calm = true) (hN : X.N.Nodup) (hi : X.N[i]? = some x) (hj : X.N[j]? = some y) (hij : i ≠ j)
    (hx : X.env.scope.names.lookup x = some .local) (hy : X.env.scope.names.lookup y = some .local) (ha : QA X F0 H0 [a, b] t)
    (hw : swappedStores [.Tuple [.Name x px, .Name y py] kt pt] (.Tuple [a, b] k2 pt2) X.env = pure (some [x, y])) (hs : swapsWithSole [.Tuple [.Name x px, .Name y py] kt pt] (.Tuple [a, b] k2 pt2) pos.line X.env = pure false := by rfl) :
    QS X F0 H0 (.Assign [.Tuple [.Name x px, .Name y py] kt pt] (.Tuple [a, b] k2 pt2) pos) (cPar i j t) := fun z E cx =>
  psC (ps_par (X := X.wsh z) (i := i) (j := j) hc hN hi hj hij hx hy (ha z E cx) hw hs) fun D σ H ⟨F, Γ, D2, R, h, k⟩ => ⟨F, Γ, _, R, h, fun ds Γ1 F1 H1 vs R1 s1 r1 h1 => by
    match ds, r1, h1 with
    | [d1, d2], r1, h1 =>
      unfold Reps Reps Reps at r1
      obtain ⟨v1, _, rfl, q1, v2, _, rfl, q2, rfl⟩ := r1
      exact ⟨v1, v2, rfl, k.nx _ _ _ _ ((R1.set i q1).set j q2) s1 h1⟩
    | [], _, h1 => exact False.elim h1
    | [_], _, h1 => exact False.elim h1
    | _ :: _ :: _ :: _, _, h1 => exact False.elim h1⟩

def cWhile (c : TT2) (tb : TS2) : TS2 := fun D Γ E => ∃ W : Nat → G2 → Prop, (∃ m, W m Γ) ∧ ∀ m Γ, W m Γ →
  c Γ (fun b Γ1 => if b = true then tb { D with nx := fun Γ' => ∃ m', m' < m ∧ W m' Γ', ct := fun Γ' => ∃ m', m' < m ∧ W m' Γ', bk := D.nx } Γ1 E else D.nx Γ1) E
theorem qs_while {c : Expr} {body : List Stmt} {tc : TT2} {tb : TS2} (hc : QT X F0 H0 c tc) (hb : QSs X F0 H0 body tb) : QS X F0 H0 (.While c body [] pos) (cWhile tc tb) := fun z E cx =>
  psC (ps_while cx.po (hc z E cx) (hb z E cx)) fun D σ H ⟨F, Γ, D2, R, ⟨W, ⟨m, w0⟩, turn⟩, k⟩ => by
    refine ⟨fun m σ H => ∃ F1 Γ1, SR X.K F0 H0 F1 H σ Γ1 ∧ Same F F1 ∧ W m Γ1, ⟨m, F, Γ, R, .refl _, w0⟩, fun m σ H ⟨F1, Γ1, R1, s1, w1⟩ => ⟨F1, Γ1, _, R1, turn m Γ1 w1, fun b Γ2 F2 H2 R2 s2 q => ?_⟩⟩
    cases b with
    | true =>
      rw [if_pos rfl] at q ⊢
      refine ⟨fun σ' H' => ∃ m', m' < m ∧ ∃ F3 Γ3, SR X.K F0 H0 F3 H' σ' Γ3 ∧ Same F F3 ∧ W m' Γ3, fun σ' H' z => z, F2, Γ2, _, R2, q, ⟨fun Γ3 F3 H3 σ3 R3 s3 ⟨m', l, w3⟩ => ⟨m', l, F3, Γ3, R3, s1.trans (s2.trans s3), w3⟩, fun Γ3 F3 H3 σ3 R3 s3 p => k.nx _ _ _ _ R3 (s1.trans (s2.trans s3)) p,
        fun Γ3 F3 H3 σ3 R3 s3 ⟨m', l, w3⟩ => ⟨m', l, F3, Γ3, R3, s1.trans (s2.trans s3), w3⟩, k.rt, k.rf, k.rT⟩⟩
    | false =>
      rw [if_neg Bool.false_ne_true] at q ⊢
      exact k.nx _ _ _ _ R2 (s1.trans s2) q
def iSeq (K : PySem.W.Frag) (tl : TE) : TI := fun σ H R => tl σ H fun x H1 => ∃ a, x = .ref a ∧ (((∃ xs, SqL K H1 a xs) ∧ R (Itl K a) H1) ∨ ((∃ xs, SqT K H1 a xs) ∧ R (Itt K a) H1))
theorem pi_seq {l : Expr} {tl : TE} (hl : PE X l tl) : PI X tg l (iSeq X.K tl) := by
  intro pins s σ H R I h
  refine thn (hl pins s σ H _ I h) fun v s1 ⟨x, H1, I1, r1, q1⟩ => ?_
  obtain ⟨a, e, q⟩ := q1
  subst e
  cases r1
  rcases q with ⟨⟨xs, hq⟩, q⟩ | ⟨⟨xs, hq⟩, q⟩
  · obtain ⟨its, rv, p, hz⟩ := I1.list hq
    refine wpAny_pyIter_list p.isList ?_
    refine ⟨s1.heap.objs.size, [s1.heap.objs.size], _, _, H1, rfl, I1.kept (t' := s1.toks) fun b o e => Heap.get?_push_of_some _ e, turn_list a _, ⟨_, Heap.get?_push_size _ rfl, rfl, rfl⟩, fun b hb => ?_, q⟩
    obtain rfl : b = s1.heap.objs.size := by simpa using hb
    exact I1.fpOk (Nat.le_refl _) (I1.hok.fresh (Nat.le_refl _))
  · obtain ⟨its, rv, p, hz⟩ := I1.tuple hq
    refine wpAny_pyIter_tuple (show s1.heap.IsTuple a its.toArray from p) ?_
    refine ⟨s1.heap.objs.size, [s1.heap.objs.size], _, _, H1, rfl, I1.kept (t' := s1.toks) fun b o e => Heap.get?_push_of_some _ e, turn_tuple a _, ⟨_, Heap.get?_push_size _ rfl, rfl, rfl⟩, fun b hb => ?_, q⟩
    obtain rfl : b = s1.heap.objs.size := by simpa using hb
    exact I1.fpOk (Nat.le_refl _) (I1.hok.fresh (Nat.le_refl _))
def LoopW (ds : List D) (g : TG2) (tb : TS2) (D0 : End2) (E : XW) (Γ : G2) : Prop := ∃ I : Nat → G2 → Prop, I 0 Γ ∧
  (∀ (i : Nat) x Γ, ds[i]? = some x → I i Γ → g x Γ (fun Γ' => tb { D0 with nx := I (i + 1), ct := I (i + 1), bk := D0.nx } Γ' E) E) ∧ ∀ Γ, I ds.length Γ → D0.nx Γ
def cFor (te : TE2) (g : TG2) (tb : TS2) : TS2 := fun D0 Γ E => te Γ (fun d Γ1 => match d with | .lst ds => LoopW ds g tb D0 E Γ1 | .tup ds => LoopW ds g tb D0 E Γ1 | _ => False) E
theorem qs_for {iter : Expr} {body : List Stmt} {tb : TS2} (hc : X.calm = true) (hi : QE X F0 H0 iter te) (hg : QG X F0 H0 tg g) (hb : QSs X F0 H0 body tb) (hs : ∀ x, foldedSetIterable iter X.env x = pure x := by intro _; rfl) :
    QS X F0 H0 (.For tg iter body [] pos) (cFor te g tb) := fun z E cx =>
  psC (ps_for (X := X.wsh z) cx.po hc (pi_seq (hi z E cx)) (hg z E cx) (hb z E cx) hs) fun Dn σ H ⟨F, Γ, D2, R, h, k⟩ => ⟨F, Γ, _, R, h, fun d Γ1 F1 H1 v R1 s1 r1 h1 => by
    have body : ∀ (ds : List L3.D) (vs : List V), Reps X.K F1 ds vs → ∀ I : Nat → G2 → Prop, (∀ (i : Nat) x Γ, ds[i]? = some x → I i Γ → g x Γ (fun Γ' => tb { D2 with nx := I (i + 1), ct := I (i + 1), bk := D2.nx } Γ' E) E) →
        ∀ (i : Nat) x σ H, vs[i]? = some x → (∃ F2 Γ2, SR X.K F0 H0 F2 H σ Γ2 ∧ Same F1 F2 ∧ I i Γ2) → upG X.K F0 H0 g E x σ H fun σ2 H2 => upS X.K F0 H0 tb E { Dn with nx := fun σ H => ∃ F2 Γ2, SR X.K F0 H0 F2 H σ Γ2 ∧ Same F1 F2 ∧ I (i + 1) Γ2, ct := fun σ H => ∃ F2 Γ2, SR X.K F0 H0 F2 H σ Γ2 ∧ Same F1 F2 ∧ I (i + 1) Γ2, bk := Dn.nx } σ2 H2 := by
      intro ds vs rs I turn i x σ H hx ⟨F2, Γ2, R2, s2, hI⟩
      obtain ⟨d, hd, rd⟩ := reps_get' rs hx
      exact ⟨F2, Γ2, _, d, R2, rd.up s2, turn i d Γ2 hd hI, fun Γ3 F3 H3 σ3 R3 s3 p => ⟨F3, Γ3, { D2 with nx := I (i + 1), ct := I (i + 1), bk := D2.nx }, R3, p, ⟨fun Γ4 F4 H4 σ4 R4 s4 q => ⟨F4, Γ4, R4, s2.trans (s3.trans s4), q⟩, fun Γ4 F4 H4 σ4 R4 s4 q => k.nx _ _ _ _ R4 (s1.trans (s2.trans (s3.trans s4))) q,
        fun Γ4 F4 H4 σ4 R4 s4 q => ⟨F4, Γ4, R4, s2.trans (s3.trans s4), q⟩, k.rt, k.rf, k.rT⟩⟩⟩
    cases d with
    | lst ds =>
      unfold Rep at r1
      obtain ⟨a, vs, rfl, hq, rs⟩ := r1
      obtain ⟨I, i0, turn, done⟩ := h1
      refine ⟨a, rfl, .inl ⟨⟨vs, R1.g.seq hq⟩, for_list (xs := vs) (fun i σ H => ∃ F2 Γ2, SR X.K F0 H0 F2 H σ Γ2 ∧ Same F1 F2 ∧ I i Γ2) ⟨F1, Γ1, R1, .refl _, i0⟩ (fun i σ H _ ⟨F2, Γ2, R2, s2, _⟩ => R2.g.seq (s2.seq hq)) (body ds vs rs I turn) ?_⟩⟩
      rintro σ H ⟨F2, Γ2, R2, s2, hI⟩
      exact k.nx _ _ _ _ R2 (s1.trans s2) (done _ (by rw [reps_len rs]; exact hI))
    | tup ds =>
      unfold Rep at r1
      obtain ⟨a, vs, rfl, hq, rs⟩ := r1
      obtain ⟨I, i0, turn, done⟩ := h1
      refine ⟨a, rfl, .inr ⟨⟨vs, sqT_mono R1.g hq⟩, for_tup (xs := vs) (fun i σ H => ∃ F2 Γ2, SR X.K F0 H0 F2 H σ Γ2 ∧ Same F1 F2 ∧ I i Γ2) ⟨F1, Γ1, R1, .refl _, i0⟩ (fun i σ H _ ⟨F2, Γ2, R2, s2, _⟩ => sqT_mono R2.g (sqT_mono s2 hq)) (body ds vs rs I turn) ?_⟩⟩
      rintro σ H ⟨F2, Γ2, R2, s2, hI⟩
      exact k.nx _ _ _ _ R2 (s1.trans s2) (done _ (by rw [reps_len rs]; exact hI))
    | _ => exact False.elim h1⟩
def RngW (lo : Int) (n : Nat) (g : TG2) (tb : TS2) (D0 : End2) (E : XW) (Γ : G2) : Prop := ∃ I : Nat → G2 → Prop, I 0 Γ ∧
  (∀ (i : Nat) Γ, i < n → I i Γ → g (.int (lo + i)) Γ (fun Γ' => tb { D0 with nx := I (i + 1), ct := I (i + 1), bk := D0.nx } Γ' E) E) ∧ ∀ Γ, I n Γ → D0.nx Γ
theorem rng_up {K : PySem.W.Frag} {F1 H1 : Hp} {Γ1 : G2} {σ : St} {lo : Int} {n : Nat} {tb : TS2} {D2 : End2} {D : Ends} {E : XW} (R1 : SR K F0 H0 F1 H1 σ Γ1) (h : RngW lo n g tb D2 E Γ1) (k : EndR K F0 H0 F1 D2 D) :
    ∃ W : Nat → Nat → St → Hp → Prop, (∃ m, W 0 m σ H1) ∧ ∀ i m σ H, W i m σ H → ((Itr lo n).stop i H ∧ D.nx σ H) ∨ ((Itr lo n).go i H ∧ ∃ N : St → Hp → Prop, (∀ σ' H', N σ' H' → ∃ m', m' < m ∧ W (i + 1) m' σ' H') ∧
      ∀ x H', (Itr lo n).yld i H x H' → upG K F0 H0 g E x σ H' fun σ2 H2 => upS K F0 H0 tb E { D with nx := N, ct := N, bk := D.nx } σ2 H2) := by
  obtain ⟨I, i0, turn, done⟩ := h
  refine for_range (lo := lo) (n := n) (fun i σ H => ∃ F2 Γ2, SR K F0 H0 F2 H σ Γ2 ∧ Same F1 F2 ∧ I i Γ2) ⟨F1, Γ1, R1, .refl _, i0⟩ ?_ ?_
  · rintro i σ H hi ⟨F2, Γ2, R2, s2, hI⟩
    exact ⟨F2, Γ2, _, .int (lo + i), R2, by unfold Rep; rfl, turn i Γ2 hi hI, fun Γ3 F3 H3 σ3 R3 s3 p => ⟨F3, Γ3, _, R3, p, ⟨fun Γ4 F4 H4 σ4 R4 s4 q => ⟨F4, Γ4, R4, s2.trans (s3.trans s4), q⟩, fun Γ4 F4 H4 σ4 R4 s4 q => k.nx _ _ _ _ R4 (s2.trans (s3.trans s4)) q,
      fun Γ4 F4 H4 σ4 R4 s4 q => ⟨F4, Γ4, R4, s2.trans (s3.trans s4), q⟩, k.rt, k.rf, k.rT⟩⟩⟩
  · rintro σ H ⟨F2, Γ2, R2, s2, hI⟩
    exact k.nx _ _ _ _ R2 s2 (done _ hI)
def cRng1 (t : TF2) (g : TG2) (tb : TS2) : TS2 := fun D0 Γ E => t Γ (fun ds Γ1 => match ds with | [.int j] => (-(2 ^ 62) ≤ j ∧ j < 2 ^ 62) ∧ RngW 0 j.toNat g tb D0 E Γ1 | _ => False) E
theorem qs_rng1 {a : Expr} {t : TF2} {p pc : Pos} {body : List Stmt} {tb : TS2} (hc : X.calm = true) (hgl : Gl X "range") (hm : X.mg "range" = none) (ha : QA X F0 H0 [a] t) (hg : QG X F0 H0 tg g) (hb : QSs X F0 H0 body tb)
    (hst : starEach [a] X.env = [(false, eval a X.env)] := by rfl) (hs : ∀ x, foldedSetIterable (.Call (.Name "range" p) [a] [] pc) X.env x = pure x := by intro _; rfl) : QS X F0 H0 (.For tg (.Call (.Name "range" p) [a] [] pc) body [] pos) (cRng1 t g tb) := fun z E cx =>
  psC (ps_for (X := X.wsh z) cx.po hc (pi_range1 hgl hm (ha z E cx) hst) (hg z E cx) (hb z E cx) hs) fun D σ H ⟨F, Γ, D2, R, h, k⟩ => ⟨F, Γ, _, R, h, fun ds Γ1 F1 H1 vs R1 s1 r1 h1 => by
    split at h1
    · rename_i j
      unfold Reps Reps Rep at r1
      obtain ⟨v, _, rfl, rfl, rfl⟩ := r1
      exact ⟨j, rfl, h1.1.1, h1.1.2, rng_up R1 h1.2 (k.mono s1)⟩
    · exact False.elim h1⟩
def cRng2 (t : TF2) (g : TG2) (tb : TS2) : TS2 := fun D0 Γ E => t Γ (fun ds Γ1 => match ds with | [.int i, .int j] => (-(2 ^ 62) ≤ i ∧ i < 2 ^ 62 ∧ -(2 ^ 62) ≤ j ∧ j < 2 ^ 62) ∧ RngW i (j - i).toNat g tb D0 E Γ1 | _ => False) E
def ItrS (lo st : Int) (n : Nat) : It := ⟨fun i _ => i < n, fun i H x H' => H' = H ∧ x = .int (lo + i * st), fun i _ => n ≤ i⟩
def iRng3 (ta : TA) : TI := fun σ H R => ta σ H fun vs H1 => ∃ (i j k : Int) (n : Nat), vs = [.int i, .int j, .int k] ∧ k ≠ 0 ∧ k.natAbs < 1073741824 ∧ Builtin.Range.small i j k = true ∧ Builtin.Range.rangeSize i j k = (n : Int) ∧ R (ItrS i k n) H1
def RngS (lo st : Int) (n : Nat) (g : TG2) (tb : TS2) (D0 : End2) (E : XW) (Γ : G2) : Prop := ∃ I : Nat → G2 → Prop, I 0 Γ ∧
  (∀ (i : Nat) Γ, i < n → I i Γ → g (.int (lo + i * st)) Γ (fun Γ' => tb { D0 with nx := I (i + 1), ct := I (i + 1), bk := D0.nx } Γ' E) E) ∧ ∀ Γ, I n Γ → D0.nx Γ
def cRng3 (t : TF2) (g : TG2) (tb : TS2) : TS2 := fun D0 Γ E => t Γ (fun ds Γ1 => match ds with
  | [.int i, .int j, .int k] => ∃ n : Nat, k ≠ 0 ∧ k.natAbs < 1073741824 ∧ Builtin.Range.small i j k = true ∧ Builtin.Range.rangeSize i j k = (n : Int) ∧ RngS i k n g tb D0 E Γ1
  | _ => False) E
end

abbrev Sp2 := List D → (D → Prop) → (Value → Prop) → Prop
def spUp (K : PySem.W.Frag) (sp : Sp2) : Sp := fun vs H Q E => ∃ F ds P Ex, Same F H ∧ Reps K F ds vs ∧ sp ds P Ex ∧ (∀ d v F' H', Gr F H F' H' → Rep K F' d v → P d → Q v H') ∧ ∀ C H', Ex C → Same H H' → E C none H'
def cCall (sp : Sp2) (t : TF2) : TE2 := fun Γ P E => t Γ (fun ds Γ1 => sp ds (fun d => P d Γ1) fun C => E Γ1 C) E
section
variable {X : Cx} {F0 H0 : Hp} {e : Expr} {es : List Expr} {pos p : Pos} {x : Str} {f : Addr} {fd : FuncData} {ps : List Str} {k : Nat} {sp : Sp2} {t : TF2}
theorem run2 {z : Wsh} {E : XW} {pins : List (Addr × Obj)} {s : Shared} {σ : St} {F H : Hp} {Γ : G2} {us : List Value} {vs : List V} {ds : List D} {P : D → Prop} {Q : VK} (Fn : FnOk X.prog X.w X.K X.mg X.base (CX1 X.prog X.w) k f fd ps (spUp X.K sp)) (hr : Room k X.A) (hb : Binds X.K fd ps []) (cx : Ctx (X.wsh z) F0 H0 E)
    (I : Inv (X.wsh z) pins σ H s) (R : SR X.K F0 H0 F H σ Γ) (r : Vals vs us) (rs : Reps X.K F ds vs) (h : sp ds P fun C => E Γ C) (hQ : ∀ d v F' H', Gr F H F' H' → Rep X.K F' d v → P d → Q v H') :
    wpAny (model X.prog X.w) X.A (call (.ref f) us) (EP (X.wsh z) pins σ Q) z.xe s := by
  have hs : spUp X.K sp vs H Q (fun C dx H' => E Γ C ∧ dx = none ∧ Same H H') := ⟨F, ds, P, _, R.g, rs, h, hQ, fun C H' hE hS => ⟨hE, rfl, hS⟩⟩
  have hl : (us ++ []).length = ps.length := by rw [List.append_nil, ← r.length]; exact Fn.len _ _ _ _ hs
  have hbs := hb s us I.kIn hl
  rw [List.append_nil] at hbs
  refine wpAny_call (codeAny_mono (Fn.run X.A X.stack s H ⟨us, []⟩ us vs Q _ hr I.env0 hbs r hs) fun r s' hq => ?_)
  cases r with
  | error e => exact cx.px pins σ Γ F H s e s' I R hq
  | ok fl =>
    cases fl with
    | ret u => exact I.after hq
    | next => exact False.elim hq
    | brk => exact False.elim hq
    | cont => exact False.elim hq
theorem qe_call (Fn : FnOk X.prog X.w X.K X.mg X.base (CX1 X.prog X.w) k f fd ps (spUp X.K sp)) (hr : Room k X.A) (hg : Gl X x) (hm : X.mg x = some (.ref f)) (hk : PySem.W.keepIn X.K (.ref f) = true) (hb : Binds X.K fd ps [])
    (ha : QA X F0 H0 (e :: es) t) (hdb : (x == ("__debug__" : Str)) = false := by decide) (he : starEach (e :: es) X.env = (false, eval e X.env) :: starEach es X.env := by rfl) (hpl : (backTo pos (starEach es X.env)).any (·.1) = false := by rfl) :
    QE X F0 H0 (.Call (.Name x p) (e :: es) [] pos) (cCall sp t) := by
  intro z E cx pins s σ H Q I ⟨F, Γ, P, R, h, kk⟩
  refine wpAny_Call_Name_kw (ld_glob (X := X.wsh z) I hg hm ?_ hdb)
  refine PySem.W.callWith_K (h₀ := X.base) I.ok.mod.kin hk (thn (ha z E cx pos pins s σ H (fun vs H1 => ∃ F1 Γ1 ds, SR X.K F0 H0 F1 H1 σ Γ1 ∧ Same F F1 ∧ Reps X.K F1 ds vs ∧ sp ds (fun d => P d Γ1) fun C => E Γ1 C) I ⟨F, Γ, _, R, h, fun ds Γ1 F1 H1 vs R1 s1 r1 h1 => ⟨F1, Γ1, ds, R1, s1, r1, h1⟩⟩) fun us s1 ⟨vs, H1, I1, r, F1, Γ1, ds, R1, sF, rs, q⟩ => ⟨I1.kIn, ?_⟩) he hpl
  exact run2 Fn hr hb cx I1 R1 r rs q fun d v F' H' gr rv hp => kk d Γ1 F' H' v (R1.grow gr) (sF.trans gr.f) rv hp
end

def start3 (n : Nat) (ds : List D) : G2 := ds.map .pu ++ List.replicate (n - ds.length) .no
abbrev start2 (N : List Str) (ds : List D) : G2 := start3 N.length ds
theorem sr_start {K : PySem.W.Frag} {F0 H : Hp} {N : List Str} {ds : List D} {vs : List V} (h : Same F0 H) (r : Reps K F0 ds vs) : SR K F0 H F0 H (L2.start N vs) (start2 N ds) := by
  have hl := reps_len r
  refine ⟨Gr.refl h, by simp [L2.start, start2, start3, hl], fun i s e => ?_, fun i j a e _ => ?_⟩
  · unfold start2 start3 at e
    unfold L2.start
    by_cases hi : i < ds.length
    · rw [List.getElem?_append_left (by simpa using hi), List.getElem?_map] at e
      cases q : ds[i]? with
      | none => rw [q] at e; cases e
      | some d =>
        rw [q] at e; cases e
        obtain ⟨v, e1, r1⟩ := reps_get r q
        refine ⟨some v, ?_, v, rfl, r1⟩
        rw [List.getElem?_append_left (by rw [List.length_map, ← hl]; exact hi), List.getElem?_map, e1]; rfl
    · rw [List.getElem?_append_right (by simpa using hi), List.getElem?_replicate] at e
      split at e
      · cases e
        rename_i hlt
        simp only [List.length_map] at hlt
        refine ⟨none, ?_, trivial⟩
        rw [List.getElem?_append_right (by rw [List.length_map, ← hl]; omega), List.getElem?_replicate, if_pos (by rw [List.length_map, ← hl]; exact hlt)]
      · cases e
  · exfalso
    obtain ⟨s, o, e, _, hs⟩ := e
    unfold start2 start3 at e
    by_cases hi : i < ds.length
    · rw [List.getElem?_append_left (by simpa using hi), List.getElem?_map] at e
      cases q : ds[i]? with
      | none => rw [q] at e; cases e
      | some d => rw [q] at e; cases e; exact hs
    · rw [List.getElem?_append_right (by simpa using hi), List.getElem?_replicate] at e
      split at e
      · cases e; exact hs
      · cases e
section
variable {P : Program} {w : World} {K : PySem.W.Frag} {mg : Str → Option Value} {base : Heap}
theorem fn2 {x qual : Str} {st : Stmt} {f : Addr} {fd : FuncData} {N ps : List Str} {k : Nat} {sp : Sp2} (Fn : Fun K x qual st f fd) (S : FnScope N ps (defScope st)) (len : ∀ ds Q E, sp ds Q E → ds.length = ps.length)
    (hbody : ∀ (cdv : Value) (A : Around) (outer : List Env) (s : Shared) (H : Hp) (E : XK), Room k (A.deeper (envOfC qual (defScope st) s.heap.objs.size f cdv)) → ∀ F0 : Hp,
      ∃ t, QSs (cxOf (CX1 P w) P w K mg base N qual (defScope st) f cdv A outer s H E) F0 H (defBody st) t ∧ ∀ ds Q Ex, sp ds Q Ex → t { nx := fun _ => Q .non, rt := Q } (start2 N ds) fun _ => Ex) :
    FnOk P w K mg base (CX1 P w) (k + 1) f fd ps (spUp K sp) := by
  obtain ⟨oc, od, kV, doc, pm, an, cdv, ct, osl, rfl, lk, hcd⟩ := Fn.ex
  refine fn_of lk hcd S (fun vs H Q E ⟨F, ds, P', Ex, _, rs, hs, _⟩ => by rw [← reps_len rs]; exact len _ _ _ hs) fun A outer s H vs Q E hr ⟨F0, ds, Pd, Ex, sF, rs, hsp, hQ, hE⟩ => ?_
  obtain ⟨t, ht, hq⟩ := hbody cdv A outer s H E hr F0
  have cx : Ctx ((cxOf (CX1 P w) P w K mg base N qual (defScope st) f cdv A outer s H E).wsh ⟨(cxOf (CX1 P w) P w K mg base N qual (defScope st) f cdv A outer s H E).xe, []⟩) F0 H (fun _ => Ex) := by
    refine ⟨fun pins σ Γ F H1 s1 e s' I R hx => ?_, PassesOwn.leaving⟩
    refine thn (pass_leave (E := fun C dx H' => E C dx H') I rfl rfl rfl (hx.imp fun C dx H' z => ?_)) fun _ s'' z => z
    obtain ⟨z1, rfl, z3⟩ := z
    exact hE C H' z1 (R.gr.h.trans z3)
  exact ⟨_, ht _ _ cx, F0, start2 N ds, { nx := fun _ => Pd .non, rt := Pd }, sr_start sF rs, hq ds Pd Ex hsp, ⟨fun Γ F' H' σ R' _ q => hQ _ _ _ _ R'.gr (by unfold Rep; rfl) q, fun _ _ _ _ _ _ q => q, fun _ _ _ _ _ _ q => q, fun d v F' H' gr rv q => hQ d v F' H' gr rv q, fun _ _ _ _ _ _ q => q.elim, fun _ _ _ _ _ _ _ _ _ q => q.elim⟩⟩
end
end L3

namespace L3
open PySem PySem.Spec PyProof.Rows L2

def bln (i : Int) : Nat := Builtin.Int.intBits i
theorem bln_mul {i j : Int} (h : bln i + bln j ≤ 100000000) : IntMulOk i j := by
  unfold bln at h
  unfold IntMulOk
  intro z
  simp only [Bool.and_eq_true, decide_eq_true_eq] at z
  have z2 := z.2
  unfold Builtin.Int.intTooBig at z2
  have hb : bitsLine = 134217728 := by rfl
  rw [hb] at z2
  have := of_decide_eq_true z2
  omega
theorem bln_le {i : Int} {k : Nat} (h : i.natAbs < 2 ^ k) : bln i ≤ k := by
  unfold bln Builtin.Int.intBits
  split
  · exact Nat.zero_le _
  · rename_i q
    have n0 : i.natAbs ≠ 0 := fun z => by
      have : i = 0 := Int.natAbs_eq_zero.mp z
      subst this
      exact q rfl
    have := (Nat.log2_lt n0).mpr h
    omega
theorem bln_lt {i : Int} {k : Nat} (h : bln i ≤ k) : i.natAbs < 2 ^ k := by
  unfold bln Builtin.Int.intBits at h
  split at h
  · rename_i q
    have : i = 0 := by simpa using q
    subst this
    exact Nat.two_pow_pos k
  · rename_i q
    have n0 : i.natAbs ≠ 0 := fun z => by
      have : i = 0 := Int.natAbs_eq_zero.mp z
      subst this
      exact q rfl
    exact (Nat.log2_lt n0).mp (by omega)
theorem bln_mul_le (i j : Int) : bln (i * j) ≤ bln i + bln j := by
  refine bln_le ?_
  rw [Int.natAbs_mul, Nat.pow_add]
  exact Nat.mul_lt_mul'' (bln_lt (Nat.le_refl _)) (bln_lt (Nat.le_refl _))
theorem bln_add_le (i j : Int) : bln (i + j) ≤ max (bln i) (bln j) + 1 := by
  refine bln_le ?_
  have h1 : i.natAbs < 2 ^ (max (bln i) (bln j)) := bln_lt (Nat.le_max_left _ _)
  have h2 : j.natAbs < 2 ^ (max (bln i) (bln j)) := bln_lt (Nat.le_max_right _ _)
  have h3 := Int.natAbs_add_le i j
  rw [Nat.pow_succ]
  omega
theorem bln_mono {i j : Int} (h : i.natAbs ≤ j.natAbs) : bln i ≤ bln j := bln_le (Nat.lt_of_le_of_lt h (bln_lt (Nat.le_refl _)))

section
variable {X : Cx}
theorem op2_int {f : Value → Value → Sem Value} {C : Int → Int → Prop} {v : Int → Int → V} {d : Int → Int → D} {g : D → D → (D → Prop) → Prop} (ho : OpR X f (rI C v)) (hg : ∀ x y P, g x y P → ∃ i j, x = .int i ∧ y = .int j ∧ C i j ∧ P (d i j)) (hd : ∀ i j F, Rep X.K F (d i j) (v i j)) : OpR X f (rUp X.K g) := by
  intro pins s σ H x y u w Q I rx ry ⟨F, d1, d2, P, sF, r1, r2, h, k⟩
  obtain ⟨i, j, rfl, rfl, hc, hp⟩ := hg _ _ _ h
  unfold Rep at r1 r2
  subst r1 r2
  exact ho pins s σ H _ _ u w Q I rx ry ⟨i, j, rfl, rfl, hc, k _ _ F H (Gr.refl sF) (hd i j F) hp⟩
theorem op2_int0 {f : Value → Value → Sem Value} {v : Int → Int → V} {d : Int → Int → D} {g : D → D → (D → Prop) → Prop} (ho : OpR X f (rI0 v)) (hg : ∀ x y P, g x y P → ∃ i j, x = .int i ∧ y = .int j ∧ P (d i j)) (hd : ∀ i j F, Rep X.K F (d i j) (v i j)) : OpR X f (rUp X.K g) := by
  intro pins s σ H x y u w Q I rx ry ⟨F, d1, d2, P, sF, r1, r2, h, k⟩
  obtain ⟨i, j, rfl, rfl, hp⟩ := hg _ _ _ h
  unfold Rep at r1 r2
  subst r1 r2
  exact ho pins s σ H _ _ u w Q I rx ry ⟨i, j, rfl, rfl, k _ _ F H (Gr.refl sF) (hd i j F) hp⟩
def wI (C : Int → Int → Prop) (d : Int → Int → D) : D → D → (D → Prop) → Prop := fun x y P => match x, y with
  | .int i, .int j => C i j ∧ P (d i j)
  | _, _ => False
theorem wI_of {C : Int → Int → Prop} {d : Int → Int → D} {x y : D} {P : D → Prop} (h : wI C d x y P) : ∃ i j, x = .int i ∧ y = .int j ∧ C i j ∧ P (d i j) := by
  unfold wI at h
  split at h
  · exact ⟨_, _, rfl, rfl, h⟩
  · exact h.elim
def wI0 (d : Int → Int → D) : D → D → (D → Prop) → Prop := fun x y P => match x, y with
  | .int i, .int j => P (d i j)
  | _, _ => False
theorem wI0_of {d : Int → Int → D} {x y : D} {P : D → Prop} (h : wI0 d x y P) : ∃ i j, x = .int i ∧ y = .int j ∧ P (d i j) := by
  unfold wI0 at h
  split at h
  · exact ⟨_, _, rfl, rfl, h⟩
  · exact h.elim
def gAdd : D → D → (D → Prop) → Prop := fun x y P => match x, y with
  | .int i, .int j => P (.int (i + j))
  | .str i, .str j => i.length + j.length ≤ sizeLine ∧ P (.str (i ++ j))
  | _, _ => False
theorem o_add : OpR X (binaryOp .Add) (rUp X.K gAdd) := by
  intro pins s σ H x y u w Q I rx ry ⟨F, d1, d2, P, sF, r1, r2, h, k⟩
  unfold gAdd at h
  split at h
  · unfold Rep at r1 r2
    subst r1 r2
    exact op_add pins s σ H _ _ u w Q I rx ry ⟨_, _, rfl, rfl, k _ _ F H (Gr.refl sF) (by unfold Rep; rfl) h⟩
  · unfold Rep at r1 r2
    subst r1 r2
    exact op_add_str pins s σ H _ _ u w Q I rx ry ⟨_, _, rfl, rfl, h.1, k _ _ F H (Gr.refl sF) (by unfold Rep; rfl) h.2⟩
  · exact h.elim
def gSub : D → D → (D → Prop) → Prop := wI0 fun i j => .int (i - j)
theorem o_sub : OpR X (binaryOp .Sub) (rUp X.K gSub) := op2_int0 op_sub (fun _ _ _ h => wI0_of h) fun _ _ _ => by unfold Rep; rfl
def MulC (i j : Int) : Prop := bln i ≤ 64 ∨ bln j ≤ 64 ∨ bln i + bln j ≤ 100000000
theorem MulC.ok {i j : Int} (h : MulC i j) : IntMulOk i j := by
  rcases h with h | h | h
  · exact .of_left h
  · exact .of_right h
  · exact bln_mul h
def gMul : D → D → (D → Prop) → Prop := wI MulC fun i j => .int (i * j)
theorem o_mul : OpR X (binaryOp .Mult) (rUp X.K gMul) := op2_int (C := MulC) (v := fun i j => .int (i * j)) (opI fun i j _ _ _ _ _ hc q => mul_int q hc.ok) (fun _ _ _ h => wI_of h) fun _ _ _ => by unfold Rep; rfl
def gDiv : D → D → (D → Prop) → Prop := wI (fun _ j => j ≠ 0 ∧ bln j ≤ 9000) fun i j => .int (i.fdiv j)
theorem o_div : OpR X (binaryOp .FloorDiv) (rUp X.K gDiv) := op2_int (C := fun _ j => j ≠ 0 ∧ bln j ≤ 9000) (v := fun i j => .int (i.fdiv j)) (opI fun i j _ _ _ _ _ hc q => floordiv_int hc.1 q (.inl (PyProof.noPylong_of_log2 (by
  have := bln_lt hc.2
  exact (Nat.log2_lt (fun z => hc.1 (Int.natAbs_eq_zero.mp z))).mpr this)))) (fun _ _ _ h => wI_of h) fun _ _ _ => by unfold Rep; rfl
def gMod : D → D → (D → Prop) → Prop := wI (fun _ j => j ≠ 0) fun i j => .int (i.fmod j)
theorem o_mod : OpR X (binaryOp .Mod) (rUp X.K gMod) := op2_int (C := fun _ j => j ≠ 0) op_modN (fun _ _ _ h => wI_of h) fun _ _ _ => by unfold Rep; rfl
def gPow : D → D → (D → Prop) → Prop := wI CPow fun i j => .int (i ^ j.toNat)
theorem o_pow : OpR X (binaryOp .Pow) (rUp X.K gPow) := op2_int op_pow (fun _ _ _ h => wI_of h) fun _ _ _ => by unfold Rep; rfl
def gLt : D → D → (D → Prop) → Prop := wI0 fun i j => .bl (decide (i < j))
theorem o_lt : OpR X (compareOp .Lt) (rUp X.K gLt) := op2_int0 op_lt (fun _ _ _ h => wI0_of h) fun _ _ _ => by unfold Rep; rfl
def gLe : D → D → (D → Prop) → Prop := wI0 fun i j => .bl (decide (i ≤ j))
theorem o_le : OpR X (compareOp .LtE) (rUp X.K gLe) := op2_int0 op_le (fun _ _ _ h => wI0_of h) fun _ _ _ => by unfold Rep; rfl
def gGt : D → D → (D → Prop) → Prop := wI0 fun i j => .bl (decide (j < i))
theorem o_gt : OpR X (compareOp .Gt) (rUp X.K gGt) := op2_int0 op_gt (fun _ _ _ h => wI0_of h) fun _ _ _ => by unfold Rep; rfl
def gGe : D → D → (D → Prop) → Prop := wI0 fun i j => .bl (decide (j ≤ i))
def isNon : D → Bool | .non => true | _ => false
theorem rep_non {K : PySem.W.Frag} {F : Hp} {d : D} {v : V} (r : Rep K F d v) : decide (v = .non) = isNon d := by
  cases d with
  | non => unfold Rep at r; subst r; rfl
  | bl _ => unfold Rep at r; subst r; rfl
  | int _ => unfold Rep at r; subst r; rfl
  | str _ => unfold Rep at r; subst r; rfl
  | tup _ => unfold Rep at r; obtain ⟨a, _, rfl, _⟩ := r; rfl
  | lst _ => unfold Rep at r; obtain ⟨a, _, rfl, _⟩ := r; rfl
  | exc _ => unfold Rep at r; obtain ⟨a, rfl, _⟩ := r; rfl
  | ptr _ => unfold Rep at r; subst r; rfl
  | obj _ _ _ => unfold Rep at r; obtain ⟨a, _, _, rfl, _⟩ := r; rfl
  | dic _ _ => unfold Rep at r; obtain ⟨a, _, rfl, _⟩ := r; rfl
  | dit _ _ => unfold Rep at r; obtain ⟨a, _, rfl, _⟩ := r; rfl
def gIs : D → D → (D → Prop) → Prop := fun x y P => match y with | .non => P (.bl (isNon x)) | .bl d => (match x with | .bl c => P (.bl (c == d)) | _ => False) | _ => False
def gIsN : D → D → (D → Prop) → Prop := fun x y P => match y with | .non => P (.bl (!isNon x)) | .bl d => (match x with | .bl c => P (.bl (c != d)) | _ => False) | _ => False
theorem o_is : OpR X (compareOp .Is) (rUp X.K gIs) := by
  intro pins s σ H x y u w Q I rx ry ⟨F, d1, d2, P, sF, r1, r2, h, k⟩
  unfold gIs at h
  split at h
  · have e := rep_non r1
    unfold Rep at r2
    subst r2
    exact op_isN pins s σ H x _ u w Q I rx ry ⟨rfl, by rw [e]; exact k _ _ F H (Gr.refl sF) (by unfold Rep; rfl) h⟩
  · split at h
    · unfold Rep at r1 r2
      subst r1 r2
      cases rx
      cases ry
      exact is_bool ⟨.bl _, H, I, rfl, k _ _ F H (Gr.refl sF) (by unfold Rep; rfl) h⟩
    · exact h.elim
  · exact h.elim
mutual
def deq : D → D → Bool
  | .non, .non => true
  | .bl a, .bl b => a == b
  | .int a, .int b => a == b
  | .str a, .str b => a == b
  | .tup xs, .tup ys => deqs xs ys
  | .lst xs, .lst ys => deqs xs ys
  | .exc a, .exc b => a == b
  | .ptr a, .ptr b => a == b
  | .obj C fs xs, .obj C' fs' ys => decide (C = C') && decide (fs = fs') && deqs xs ys
  | .dic ks xs, .dic ks' ys => decide (ks = ks') && deqs xs ys
  | .dit ks xs, .dit ks' ys => decide (ks = ks') && deqs xs ys
  | _, _ => false
def deqs : List D → List D → Bool
  | [], [] => true
  | x :: xs, y :: ys => deq x y && deqs xs ys
  | _, _ => false
end
def Cmp : Nat → D → D → Prop
  | _, .bl _, .int _ => False
  | _, .int _, .bl _ => False
  | _, .exc _, _ => False
  | _, _, .exc _ => False
  | _, .ptr _, _ => False
  | _, _, .ptr _ => False
  | _, .obj _ _ _, _ => False
  | _, _, .obj _ _ _ => False
  | _, .dic _ _, _ => False
  | _, _, .dic _ _ => False
  | _, .dit _ _, _ => False
  | _, _, .dit _ _ => False
  | 0, .tup _, .tup _ => False
  | 0, .lst _, .lst _ => False
  | n + 1, .tup xs, .tup ys => ∀ (i : Nat) x y, xs[i]? = some x → ys[i]? = some y → Cmp n x y
  | n + 1, .lst xs, .lst ys => ∀ (i : Nat) x y, xs[i]? = some x → ys[i]? = some y → Cmp n x y
  | _, _, _ => True
end

mutual
theorem deq_refl : ∀ d : D, deq d d = true
  | .non => by simp [deq]
  | .bl _ => by simp [deq]
  | .int _ => by simp [deq]
  | .str _ => by simp [deq]
  | .tup xs => by unfold deq; exact deqs_refl xs
  | .lst xs => by unfold deq; exact deqs_refl xs
  | .exc _ => by simp [deq]
  | .ptr _ => by simp [deq]
  | .obj _ _ xs => by unfold deq; rw [deqs_refl xs]; simp
  | .dic _ xs => by unfold deq; rw [deqs_refl xs]; simp
  | .dit _ xs => by unfold deq; rw [deqs_refl xs]; simp
theorem deqs_refl : ∀ ds : List D, deqs ds ds = true
  | [] => by simp [deqs]
  | d :: ds => by unfold deqs; rw [deq_refl d, deqs_refl ds]; rfl
end
open Classical in
theorem deqs_all : ∀ {xs ys : List D}, xs.length = ys.length → (∀ e : Nat → Bool, (∀ (i : Nat) x y, xs[i]? = some x → ys[i]? = some y → e i = deq x y) → (List.range xs.length).all e = deqs xs ys)
  | [], [], _, _, _ => by simp [deqs]
  | x :: xs, y :: ys, hl, e, he => by
    have ih := deqs_all (xs := xs) (ys := ys) (by simpa using hl) (fun i => e (i + 1)) fun i a b h1 h2 => he (i + 1) a b (by simpa using h1) (by simpa using h2)
    rw [List.length_cons, List.range_succ_eq_map, List.all_cons, List.all_map]
    unfold deqs
    rw [he 0 x y rfl rfl]
    congr 1
theorem deqs_len : ∀ {xs ys : List D}, xs.length ≠ ys.length → deqs xs ys = false
  | [], [], h => absurd rfl h
  | [], _ :: _, _ => by simp [deqs]
  | _ :: _, [], _ => by simp [deqs]
  | x :: xs, y :: ys, h => by
    unfold deqs
    rw [deqs_len (fun z => h (by simp [z])), Bool.and_false]
end L3

namespace L3
open PySem PySem.Spec PyProof.Rows L2

theorem deqs_of : ∀ {xs ys : List D}, xs.length = ys.length → (∀ (i : Nat) x y, xs[i]? = some x → ys[i]? = some y → deq x y = true) → deqs xs ys = true
  | [], [], _, _ => by simp [deqs]
  | x :: xs, y :: ys, hl, h => by
    unfold deqs
    rw [h 0 x y rfl rfl, deqs_of (by simpa using hl) fun i a b h1 h2 => h (i + 1) a b (by simpa using h1) (by simpa using h2)]
    rfl
section
variable {X : Cx} {pins : List (Addr × Obj)} {σ : St} {F H : Hp} {s : Shared}
theorem seq_kinds (I : Inv X pins σ H s) {a : Addr} {xs ys : List V} (h : SqL X.K H a xs) (h' : SqT X.K H a ys) : False := by
  obtain ⟨its, _, ⟨o, n, e, c, _, _⟩, _⟩ := I.list h
  obtain ⟨its', _, ⟨o', e', c', _⟩, _⟩ := I.tuple h'
  rw [e] at e'; cases e'
  rw [c] at c'
  injection c' with c'
  exact absurd c' (by decide)
theorem same_D (I : Inv X pins σ H s) (sF : Same F H) : ∀ (n : Nat) (d d' : D) (v : V), Cmp n d d' → Rep X.K F d v → Rep X.K F d' v → deq d d' = true := by
  intro n
  induction n with
  | zero =>
    intro d d' v hc r r'
    cases d <;> cases d' <;> simp only [Cmp] at hc <;> simp only [Rep] at r r' <;>
      first
      | (subst r; cases r'; exact deq_refl _)
      | (subst r; rcases r' with ⟨_, _, z, _⟩ <;> cases z)
      | (subst r'; rcases r with ⟨_, _, z, _⟩ <;> cases z)
      | (obtain ⟨a, vs, rfl, h1, _⟩ := r; obtain ⟨b, us, z, h2, _⟩ := r'; cases z
         first | exact (seq_kinds I (sF.seq h1) (sqT_mono sF h2)).elim | exact (seq_kinds I (sF.seq h2) (sqT_mono sF h1)).elim)
  | succ n ih =>
    intro d d' v hc r r'
    have go : ∀ {xs ys : List D} {vs us : List V}, vs = us → Reps X.K F xs vs → Reps X.K F ys us → (∀ (i : Nat) x y, xs[i]? = some x → ys[i]? = some y → Cmp n x y) → deqs xs ys = true := by
      intro xs ys vs us e r1 r2 hc
      subst e
      refine deqs_of (by rw [reps_len r1, reps_len r2]) fun i x y h1 h2 => ?_
      obtain ⟨v1, e1, q1⟩ := reps_get r1 h1
      obtain ⟨v2, e2, q2⟩ := reps_get r2 h2
      rw [e1] at e2; cases e2
      exact ih x y v1 (hc i x y h1 h2) q1 q2
    cases d <;> cases d' <;> simp only [Cmp] at hc <;> simp only [Rep] at r r' <;>
      first
      | (subst r; cases r'; exact deq_refl _)
      | (subst r; rcases r' with ⟨_, _, z, _⟩ <;> cases z)
      | (subst r'; rcases r with ⟨_, _, z, _⟩ <;> cases z)
      | (obtain ⟨a, vs, rfl, h1, q1⟩ := r; obtain ⟨b, us, z, h2, q2⟩ := r'; cases z
         first
         | (unfold deq; exact go (I.tuple_inj (sqT_mono sF h1) (sqT_mono sF h2)) q1 q2 hc)
         | (unfold deq; exact go (I.list_inj (sF.seq h1) (sF.seq h2)) q1 q2 hc)
         | exact (seq_kinds I (sF.seq h1) (sqT_mono sF h2)).elim
         | exact (seq_kinds I (sF.seq h2) (sqT_mono sF h1)).elim)
structure EqD (A : Around) (s : Shared) (v u : Value) (b : Bool) : Prop where
  eq : SeqAt.EqAt A s v u b
  rc : SeqAt.RcAt A s v u b
  ne : SeqAt.RcNeAt A s v u (!b)
theorem range_min {n m : Nat} (e : Nat → Bool) (h : n = m) : ((List.range (min n m)).all e && n == m) = (List.range n).all e := by
  subst h; simp
theorem eq_D (I : Inv X pins σ H s) (sF : Same F H) : ∀ (n : Nat) (A : Around) (d d' : D) (x y : V) (v u : Value), A.units + n + 1 < cLine → Cmp n d d' → Rep X.K F d x → Rep X.K F d' y → RelV x v → RelV y u → EqD A s v u (deq d d') := by
  intro n
  induction n with
  | zero =>
    intro A d d' x y v u hu hc r r' rv ru
    have hu0 : A.units < cLine := by omega
    cases d with
    | non =>
      simp only [Rep] at r
      subst r
      cases rv
      cases d' with
      | non =>
        simp only [Rep] at r'
        subst r'
        cases ru
        exact ⟨SeqAt.EqAt.same _, SeqAt.RcAt.none_none , SeqAt.RcNeAt.none_none ⟩
      | bl x2 =>
        simp only [Rep] at r'
        subst r'
        cases ru
        exact ⟨SeqAt.EqAt.none_bool _, SeqAt.RcAt.none_bool _, SeqAt.RcNeAt.none_bool _⟩
      | int x2 =>
        simp only [Rep] at r'
        subst r'
        obtain ⟨t2, rfl⟩ := ru
        exact ⟨SeqAt.EqAt.none_int _ _, SeqAt.RcAt.none_int _ _, SeqAt.RcNeAt.none_int _ _⟩
      | str x2 =>
        simp only [Rep] at r'
        subst r'
        obtain ⟨t2, rfl⟩ := ru
        exact ⟨SeqAt.EqAt.none_str _ _, SeqAt.RcAt.none_str _ _, SeqAt.RcNeAt.none_str _ _⟩
      | tup ys =>
        simp only [Rep] at r'
        obtain ⟨l2, us, rfl, h2, q2⟩ := r'
        cases ru
        obtain ⟨is2, p2, k2, _⟩ := I.tuple (sqT_mono sF h2)
        exact ⟨SeqAt.EqAt.none_tuple  k2 hu0, SeqAt.RcAt.none_tuple  k2 hu0, SeqAt.RcNeAt.none_tuple  k2 hu0⟩
      | lst ys =>
        simp only [Rep] at r'
        obtain ⟨l2, us, rfl, h2, q2⟩ := r'
        cases ru
        obtain ⟨is2, p2, k2', _⟩ := I.list (sF.seq h2)
        have k2 := k2'.isList
        exact ⟨SeqAt.EqAt.none_list  k2 hu0, SeqAt.RcAt.none_list  k2 hu0, SeqAt.RcNeAt.none_list  k2 hu0⟩
      | exc C =>
        exact False.elim (by simpa only [Cmp] using hc)
      | ptr _ =>
        exact False.elim (by simpa only [Cmp] using hc)
      | obj _ _ _ =>
        exact False.elim (by simpa only [Cmp] using hc)
      | dic _ _ =>
        exact False.elim (by simpa only [Cmp] using hc)
      | dit _ _ =>
        exact False.elim (by simpa only [Cmp] using hc)
    | bl x1 =>
      simp only [Rep] at r
      subst r
      cases rv
      cases d' with
      | non =>
        simp only [Rep] at r'
        subst r'
        cases ru
        exact ⟨SeqAt.EqAt.bool_none _, SeqAt.RcAt.bool_none _, SeqAt.RcNeAt.bool_none _⟩
      | bl x2 =>
        simp only [Rep] at r'
        subst r'
        cases ru
        exact ⟨SeqAt.EqAt.bool_bool _ _, SeqAt.RcAt.bool_bool _ _, SeqAt.RcNeAt.bool_bool _ _⟩
      | int x2 =>
        exact False.elim (by simpa only [Cmp] using hc)
      | str x2 =>
        simp only [Rep] at r'
        subst r'
        obtain ⟨t2, rfl⟩ := ru
        exact ⟨SeqAt.EqAt.bool_str _ _ _, SeqAt.RcAt.bool_str _ _ _, SeqAt.RcNeAt.bool_str _ _ _⟩
      | tup ys =>
        simp only [Rep] at r'
        obtain ⟨l2, us, rfl, h2, q2⟩ := r'
        cases ru
        obtain ⟨is2, p2, k2, _⟩ := I.tuple (sqT_mono sF h2)
        exact ⟨SeqAt.EqAt.bool_tuple _ k2 hu0, SeqAt.RcAt.bool_tuple _ k2 hu0, SeqAt.RcNeAt.bool_tuple _ k2 hu0⟩
      | lst ys =>
        simp only [Rep] at r'
        obtain ⟨l2, us, rfl, h2, q2⟩ := r'
        cases ru
        obtain ⟨is2, p2, k2', _⟩ := I.list (sF.seq h2)
        have k2 := k2'.isList
        exact ⟨SeqAt.EqAt.bool_list _ k2 hu0, SeqAt.RcAt.bool_list _ k2 hu0, SeqAt.RcNeAt.bool_list _ k2 hu0⟩
      | exc C =>
        exact False.elim (by simpa only [Cmp] using hc)
      | ptr _ =>
        exact False.elim (by simpa only [Cmp] using hc)
      | obj _ _ _ =>
        exact False.elim (by simpa only [Cmp] using hc)
      | dic _ _ =>
        exact False.elim (by simpa only [Cmp] using hc)
      | dit _ _ =>
        exact False.elim (by simpa only [Cmp] using hc)
    | int x1 =>
      simp only [Rep] at r
      subst r
      obtain ⟨t1, rfl⟩ := rv
      cases d' with
      | non =>
        simp only [Rep] at r'
        subst r'
        cases ru
        exact ⟨SeqAt.EqAt.int_none _ _, SeqAt.RcAt.int_none _ _, SeqAt.RcNeAt.int_none _ _⟩
      | bl x2 =>
        exact False.elim (by simpa only [Cmp] using hc)
      | int x2 =>
        simp only [Rep] at r'
        subst r'
        obtain ⟨t2, rfl⟩ := ru
        exact ⟨SeqAt.EqAt.int_int _ _ _ _, SeqAt.RcAt.int_int _ _ _ _, SeqAt.RcNeAt.int_int _ _ _ _⟩
      | str x2 =>
        simp only [Rep] at r'
        subst r'
        obtain ⟨t2, rfl⟩ := ru
        exact ⟨SeqAt.EqAt.int_str _ _ _ _, SeqAt.RcAt.int_str _ _ _ _, SeqAt.RcNeAt.int_str _ _ _ _⟩
      | tup ys =>
        simp only [Rep] at r'
        obtain ⟨l2, us, rfl, h2, q2⟩ := r'
        cases ru
        obtain ⟨is2, p2, k2, _⟩ := I.tuple (sqT_mono sF h2)
        exact ⟨SeqAt.EqAt.int_tuple _ _ k2 hu0, SeqAt.RcAt.int_tuple _ _ k2 hu0, SeqAt.RcNeAt.int_tuple _ _ k2 hu0⟩
      | lst ys =>
        simp only [Rep] at r'
        obtain ⟨l2, us, rfl, h2, q2⟩ := r'
        cases ru
        obtain ⟨is2, p2, k2', _⟩ := I.list (sF.seq h2)
        have k2 := k2'.isList
        exact ⟨SeqAt.EqAt.int_list _ _ k2 hu0, SeqAt.RcAt.int_list _ _ k2 hu0, SeqAt.RcNeAt.int_list _ _ k2 hu0⟩
      | exc C =>
        exact False.elim (by simpa only [Cmp] using hc)
      | ptr _ =>
        exact False.elim (by simpa only [Cmp] using hc)
      | obj _ _ _ =>
        exact False.elim (by simpa only [Cmp] using hc)
      | dic _ _ =>
        exact False.elim (by simpa only [Cmp] using hc)
      | dit _ _ =>
        exact False.elim (by simpa only [Cmp] using hc)
    | str x1 =>
      simp only [Rep] at r
      subst r
      obtain ⟨t1, rfl⟩ := rv
      cases d' with
      | non =>
        simp only [Rep] at r'
        subst r'
        cases ru
        exact ⟨SeqAt.EqAt.str_none _ _, SeqAt.RcAt.str_none _ _, SeqAt.RcNeAt.str_none _ _⟩
      | bl x2 =>
        simp only [Rep] at r'
        subst r'
        cases ru
        exact ⟨SeqAt.EqAt.str_bool _ _ _, SeqAt.RcAt.str_bool _ _ _, SeqAt.RcNeAt.str_bool _ _ _⟩
      | int x2 =>
        simp only [Rep] at r'
        subst r'
        obtain ⟨t2, rfl⟩ := ru
        exact ⟨SeqAt.EqAt.str_int _ _ _ _, SeqAt.RcAt.str_int _ _ _ _, SeqAt.RcNeAt.str_int _ _ _ _⟩
      | str x2 =>
        simp only [Rep] at r'
        subst r'
        obtain ⟨t2, rfl⟩ := ru
        exact ⟨SeqAt.EqAt.str_str _ _ _ _, SeqAt.RcAt.str_str _ _ _ _, SeqAt.RcNeAt.str_str _ _ _ _⟩
      | tup ys =>
        simp only [Rep] at r'
        obtain ⟨l2, us, rfl, h2, q2⟩ := r'
        cases ru
        obtain ⟨is2, p2, k2, _⟩ := I.tuple (sqT_mono sF h2)
        exact ⟨SeqAt.EqAt.str_tuple _ _ k2 hu0, SeqAt.RcAt.str_tuple _ _ k2 hu0, SeqAt.RcNeAt.str_tuple _ _ k2 hu0⟩
      | lst ys =>
        simp only [Rep] at r'
        obtain ⟨l2, us, rfl, h2, q2⟩ := r'
        cases ru
        obtain ⟨is2, p2, k2', _⟩ := I.list (sF.seq h2)
        have k2 := k2'.isList
        exact ⟨SeqAt.EqAt.str_list _ _ k2 hu0, SeqAt.RcAt.str_list _ _ k2 hu0, SeqAt.RcNeAt.str_list _ _ k2 hu0⟩
      | exc C =>
        exact False.elim (by simpa only [Cmp] using hc)
      | ptr _ =>
        exact False.elim (by simpa only [Cmp] using hc)
      | obj _ _ _ =>
        exact False.elim (by simpa only [Cmp] using hc)
      | dic _ _ =>
        exact False.elim (by simpa only [Cmp] using hc)
      | dit _ _ =>
        exact False.elim (by simpa only [Cmp] using hc)
    | tup xs =>
      simp only [Rep] at r
      obtain ⟨l1, vs, rfl, h1, q1⟩ := r
      cases rv
      obtain ⟨is1, p1, k1, _⟩ := I.tuple (sqT_mono sF h1)
      cases d' with
      | non =>
        simp only [Rep] at r'
        subst r'
        cases ru
        exact ⟨SeqAt.EqAt.tuple_none  k1 hu0, SeqAt.RcAt.tuple_none  k1 hu0, SeqAt.RcNeAt.tuple_none  k1 hu0⟩
      | bl x2 =>
        simp only [Rep] at r'
        subst r'
        cases ru
        exact ⟨SeqAt.EqAt.tuple_bool _ k1 hu0, SeqAt.RcAt.tuple_bool _ k1 hu0, SeqAt.RcNeAt.tuple_bool _ k1 hu0⟩
      | int x2 =>
        simp only [Rep] at r'
        subst r'
        obtain ⟨t2, rfl⟩ := ru
        exact ⟨SeqAt.EqAt.tuple_int _ _ k1 hu0, SeqAt.RcAt.tuple_int _ _ k1 hu0, SeqAt.RcNeAt.tuple_int _ _ k1 hu0⟩
      | str x2 =>
        simp only [Rep] at r'
        subst r'
        obtain ⟨t2, rfl⟩ := ru
        exact ⟨SeqAt.EqAt.tuple_str _ _ k1 hu0, SeqAt.RcAt.tuple_str _ _ k1 hu0, SeqAt.RcNeAt.tuple_str _ _ k1 hu0⟩
      | tup ys =>
        simp only [Rep] at r'
        obtain ⟨l2, us, rfl, h2, q2⟩ := r'
        cases ru
        obtain ⟨is2, p2, k2, _⟩ := I.tuple (sqT_mono sF h2)
        exact False.elim (by simpa only [Cmp] using hc)
      | lst ys =>
        simp only [Rep] at r'
        obtain ⟨l2, us, rfl, h2, q2⟩ := r'
        cases ru
        obtain ⟨is2, p2, k2', _⟩ := I.list (sF.seq h2)
        have k2 := k2'.isList
        exact ⟨SeqAt.EqAt.tuple_list k1 k2 hu0, SeqAt.RcAt.tuple_list k1 k2 hu0, SeqAt.RcNeAt.tuple_list k1 k2 hu0⟩
      | exc C =>
        exact False.elim (by simpa only [Cmp] using hc)
      | ptr _ =>
        exact False.elim (by simpa only [Cmp] using hc)
      | obj _ _ _ =>
        exact False.elim (by simpa only [Cmp] using hc)
      | dic _ _ =>
        exact False.elim (by simpa only [Cmp] using hc)
      | dit _ _ =>
        exact False.elim (by simpa only [Cmp] using hc)
    | lst xs =>
      simp only [Rep] at r
      obtain ⟨l1, vs, rfl, h1, q1⟩ := r
      cases rv
      obtain ⟨is1, p1, k1', _⟩ := I.list (sF.seq h1)
      have k1 := k1'.isList
      cases d' with
      | non =>
        simp only [Rep] at r'
        subst r'
        cases ru
        exact ⟨SeqAt.EqAt.list_none  k1 hu0, SeqAt.RcAt.list_none  k1 hu0, SeqAt.RcNeAt.list_none  k1 hu0⟩
      | bl x2 =>
        simp only [Rep] at r'
        subst r'
        cases ru
        exact ⟨SeqAt.EqAt.list_bool _ k1 hu0, SeqAt.RcAt.list_bool _ k1 hu0, SeqAt.RcNeAt.list_bool _ k1 hu0⟩
      | int x2 =>
        simp only [Rep] at r'
        subst r'
        obtain ⟨t2, rfl⟩ := ru
        exact ⟨SeqAt.EqAt.list_int _ _ k1 hu0, SeqAt.RcAt.list_int _ _ k1 hu0, SeqAt.RcNeAt.list_int _ _ k1 hu0⟩
      | str x2 =>
        simp only [Rep] at r'
        subst r'
        obtain ⟨t2, rfl⟩ := ru
        exact ⟨SeqAt.EqAt.list_str _ _ k1 hu0, SeqAt.RcAt.list_str _ _ k1 hu0, SeqAt.RcNeAt.list_str _ _ k1 hu0⟩
      | tup ys =>
        simp only [Rep] at r'
        obtain ⟨l2, us, rfl, h2, q2⟩ := r'
        cases ru
        obtain ⟨is2, p2, k2, _⟩ := I.tuple (sqT_mono sF h2)
        exact ⟨SeqAt.EqAt.list_tuple k1 k2 hu0, SeqAt.RcAt.list_tuple k1 k2 hu0, SeqAt.RcNeAt.list_tuple k1 k2 hu0⟩
      | lst ys =>
        simp only [Rep] at r'
        obtain ⟨l2, us, rfl, h2, q2⟩ := r'
        cases ru
        obtain ⟨is2, p2, k2', _⟩ := I.list (sF.seq h2)
        have k2 := k2'.isList
        exact False.elim (by simpa only [Cmp] using hc)
      | exc C =>
        exact False.elim (by simpa only [Cmp] using hc)
      | ptr _ =>
        exact False.elim (by simpa only [Cmp] using hc)
      | obj _ _ _ =>
        exact False.elim (by simpa only [Cmp] using hc)
      | dic _ _ =>
        exact False.elim (by simpa only [Cmp] using hc)
      | dit _ _ =>
        exact False.elim (by simpa only [Cmp] using hc)
    | exc C => cases d' <;> exact False.elim (by simpa only [Cmp] using hc)
    | ptr _ => cases d' <;> exact False.elim (by simpa only [Cmp] using hc)
    | obj _ _ _ => cases d' <;> exact False.elim (by simpa only [Cmp] using hc)
    | dic _ _ => cases d' <;> exact False.elim (by simpa only [Cmp] using hc)
    | dit _ _ => cases d' <;> exact False.elim (by simpa only [Cmp] using hc)
  | succ n ih =>
    intro A d d' x y v u hu hc r r' rv ru
    have hu0 : A.units < cLine := by omega
    cases d with
    | non =>
      simp only [Rep] at r
      subst r
      cases rv
      cases d' with
      | non =>
        simp only [Rep] at r'
        subst r'
        cases ru
        exact ⟨SeqAt.EqAt.same _, SeqAt.RcAt.none_none , SeqAt.RcNeAt.none_none ⟩
      | bl x2 =>
        simp only [Rep] at r'
        subst r'
        cases ru
        exact ⟨SeqAt.EqAt.none_bool _, SeqAt.RcAt.none_bool _, SeqAt.RcNeAt.none_bool _⟩
      | int x2 =>
        simp only [Rep] at r'
        subst r'
        obtain ⟨t2, rfl⟩ := ru
        exact ⟨SeqAt.EqAt.none_int _ _, SeqAt.RcAt.none_int _ _, SeqAt.RcNeAt.none_int _ _⟩
      | str x2 =>
        simp only [Rep] at r'
        subst r'
        obtain ⟨t2, rfl⟩ := ru
        exact ⟨SeqAt.EqAt.none_str _ _, SeqAt.RcAt.none_str _ _, SeqAt.RcNeAt.none_str _ _⟩
      | tup ys =>
        simp only [Rep] at r'
        obtain ⟨l2, us, rfl, h2, q2⟩ := r'
        cases ru
        obtain ⟨is2, p2, k2, _⟩ := I.tuple (sqT_mono sF h2)
        exact ⟨SeqAt.EqAt.none_tuple  k2 hu0, SeqAt.RcAt.none_tuple  k2 hu0, SeqAt.RcNeAt.none_tuple  k2 hu0⟩
      | lst ys =>
        simp only [Rep] at r'
        obtain ⟨l2, us, rfl, h2, q2⟩ := r'
        cases ru
        obtain ⟨is2, p2, k2', _⟩ := I.list (sF.seq h2)
        have k2 := k2'.isList
        exact ⟨SeqAt.EqAt.none_list  k2 hu0, SeqAt.RcAt.none_list  k2 hu0, SeqAt.RcNeAt.none_list  k2 hu0⟩
      | exc C =>
        exact False.elim (by simpa only [Cmp] using hc)
      | ptr _ =>
        exact False.elim (by simpa only [Cmp] using hc)
      | obj _ _ _ =>
        exact False.elim (by simpa only [Cmp] using hc)
      | dic _ _ =>
        exact False.elim (by simpa only [Cmp] using hc)
      | dit _ _ =>
        exact False.elim (by simpa only [Cmp] using hc)
    | bl x1 =>
      simp only [Rep] at r
      subst r
      cases rv
      cases d' with
      | non =>
        simp only [Rep] at r'
        subst r'
        cases ru
        exact ⟨SeqAt.EqAt.bool_none _, SeqAt.RcAt.bool_none _, SeqAt.RcNeAt.bool_none _⟩
      | bl x2 =>
        simp only [Rep] at r'
        subst r'
        cases ru
        exact ⟨SeqAt.EqAt.bool_bool _ _, SeqAt.RcAt.bool_bool _ _, SeqAt.RcNeAt.bool_bool _ _⟩
      | int x2 =>
        exact False.elim (by simpa only [Cmp] using hc)
      | str x2 =>
        simp only [Rep] at r'
        subst r'
        obtain ⟨t2, rfl⟩ := ru
        exact ⟨SeqAt.EqAt.bool_str _ _ _, SeqAt.RcAt.bool_str _ _ _, SeqAt.RcNeAt.bool_str _ _ _⟩
      | tup ys =>
        simp only [Rep] at r'
        obtain ⟨l2, us, rfl, h2, q2⟩ := r'
        cases ru
        obtain ⟨is2, p2, k2, _⟩ := I.tuple (sqT_mono sF h2)
        exact ⟨SeqAt.EqAt.bool_tuple _ k2 hu0, SeqAt.RcAt.bool_tuple _ k2 hu0, SeqAt.RcNeAt.bool_tuple _ k2 hu0⟩
      | lst ys =>
        simp only [Rep] at r'
        obtain ⟨l2, us, rfl, h2, q2⟩ := r'
        cases ru
        obtain ⟨is2, p2, k2', _⟩ := I.list (sF.seq h2)
        have k2 := k2'.isList
        exact ⟨SeqAt.EqAt.bool_list _ k2 hu0, SeqAt.RcAt.bool_list _ k2 hu0, SeqAt.RcNeAt.bool_list _ k2 hu0⟩
      | exc C =>
        exact False.elim (by simpa only [Cmp] using hc)
      | ptr _ =>
        exact False.elim (by simpa only [Cmp] using hc)
      | obj _ _ _ =>
        exact False.elim (by simpa only [Cmp] using hc)
      | dic _ _ =>
        exact False.elim (by simpa only [Cmp] using hc)
      | dit _ _ =>
        exact False.elim (by simpa only [Cmp] using hc)
    | int x1 =>
      simp only [Rep] at r
      subst r
      obtain ⟨t1, rfl⟩ := rv
      cases d' with
      | non =>
        simp only [Rep] at r'
        subst r'
        cases ru
        exact ⟨SeqAt.EqAt.int_none _ _, SeqAt.RcAt.int_none _ _, SeqAt.RcNeAt.int_none _ _⟩
      | bl x2 =>
        exact False.elim (by simpa only [Cmp] using hc)
      | int x2 =>
        simp only [Rep] at r'
        subst r'
        obtain ⟨t2, rfl⟩ := ru
        exact ⟨SeqAt.EqAt.int_int _ _ _ _, SeqAt.RcAt.int_int _ _ _ _, SeqAt.RcNeAt.int_int _ _ _ _⟩
      | str x2 =>
        simp only [Rep] at r'
        subst r'
        obtain ⟨t2, rfl⟩ := ru
        exact ⟨SeqAt.EqAt.int_str _ _ _ _, SeqAt.RcAt.int_str _ _ _ _, SeqAt.RcNeAt.int_str _ _ _ _⟩
      | tup ys =>
        simp only [Rep] at r'
        obtain ⟨l2, us, rfl, h2, q2⟩ := r'
        cases ru
        obtain ⟨is2, p2, k2, _⟩ := I.tuple (sqT_mono sF h2)
        exact ⟨SeqAt.EqAt.int_tuple _ _ k2 hu0, SeqAt.RcAt.int_tuple _ _ k2 hu0, SeqAt.RcNeAt.int_tuple _ _ k2 hu0⟩
      | lst ys =>
        simp only [Rep] at r'
        obtain ⟨l2, us, rfl, h2, q2⟩ := r'
        cases ru
        obtain ⟨is2, p2, k2', _⟩ := I.list (sF.seq h2)
        have k2 := k2'.isList
        exact ⟨SeqAt.EqAt.int_list _ _ k2 hu0, SeqAt.RcAt.int_list _ _ k2 hu0, SeqAt.RcNeAt.int_list _ _ k2 hu0⟩
      | exc C =>
        exact False.elim (by simpa only [Cmp] using hc)
      | ptr _ =>
        exact False.elim (by simpa only [Cmp] using hc)
      | obj _ _ _ =>
        exact False.elim (by simpa only [Cmp] using hc)
      | dic _ _ =>
        exact False.elim (by simpa only [Cmp] using hc)
      | dit _ _ =>
        exact False.elim (by simpa only [Cmp] using hc)
    | str x1 =>
      simp only [Rep] at r
      subst r
      obtain ⟨t1, rfl⟩ := rv
      cases d' with
      | non =>
        simp only [Rep] at r'
        subst r'
        cases ru
        exact ⟨SeqAt.EqAt.str_none _ _, SeqAt.RcAt.str_none _ _, SeqAt.RcNeAt.str_none _ _⟩
      | bl x2 =>
        simp only [Rep] at r'
        subst r'
        cases ru
        exact ⟨SeqAt.EqAt.str_bool _ _ _, SeqAt.RcAt.str_bool _ _ _, SeqAt.RcNeAt.str_bool _ _ _⟩
      | int x2 =>
        simp only [Rep] at r'
        subst r'
        obtain ⟨t2, rfl⟩ := ru
        exact ⟨SeqAt.EqAt.str_int _ _ _ _, SeqAt.RcAt.str_int _ _ _ _, SeqAt.RcNeAt.str_int _ _ _ _⟩
      | str x2 =>
        simp only [Rep] at r'
        subst r'
        obtain ⟨t2, rfl⟩ := ru
        exact ⟨SeqAt.EqAt.str_str _ _ _ _, SeqAt.RcAt.str_str _ _ _ _, SeqAt.RcNeAt.str_str _ _ _ _⟩
      | tup ys =>
        simp only [Rep] at r'
        obtain ⟨l2, us, rfl, h2, q2⟩ := r'
        cases ru
        obtain ⟨is2, p2, k2, _⟩ := I.tuple (sqT_mono sF h2)
        exact ⟨SeqAt.EqAt.str_tuple _ _ k2 hu0, SeqAt.RcAt.str_tuple _ _ k2 hu0, SeqAt.RcNeAt.str_tuple _ _ k2 hu0⟩
      | lst ys =>
        simp only [Rep] at r'
        obtain ⟨l2, us, rfl, h2, q2⟩ := r'
        cases ru
        obtain ⟨is2, p2, k2', _⟩ := I.list (sF.seq h2)
        have k2 := k2'.isList
        exact ⟨SeqAt.EqAt.str_list _ _ k2 hu0, SeqAt.RcAt.str_list _ _ k2 hu0, SeqAt.RcNeAt.str_list _ _ k2 hu0⟩
      | exc C =>
        exact False.elim (by simpa only [Cmp] using hc)
      | ptr _ =>
        exact False.elim (by simpa only [Cmp] using hc)
      | obj _ _ _ =>
        exact False.elim (by simpa only [Cmp] using hc)
      | dic _ _ =>
        exact False.elim (by simpa only [Cmp] using hc)
      | dit _ _ =>
        exact False.elim (by simpa only [Cmp] using hc)
    | tup xs =>
      simp only [Rep] at r
      obtain ⟨l1, vs, rfl, h1, q1⟩ := r
      cases rv
      obtain ⟨is1, p1, k1, _⟩ := I.tuple (sqT_mono sF h1)
      cases d' with
      | non =>
        simp only [Rep] at r'
        subst r'
        cases ru
        exact ⟨SeqAt.EqAt.tuple_none  k1 hu0, SeqAt.RcAt.tuple_none  k1 hu0, SeqAt.RcNeAt.tuple_none  k1 hu0⟩
      | bl x2 =>
        simp only [Rep] at r'
        subst r'
        cases ru
        exact ⟨SeqAt.EqAt.tuple_bool _ k1 hu0, SeqAt.RcAt.tuple_bool _ k1 hu0, SeqAt.RcNeAt.tuple_bool _ k1 hu0⟩
      | int x2 =>
        simp only [Rep] at r'
        subst r'
        obtain ⟨t2, rfl⟩ := ru
        exact ⟨SeqAt.EqAt.tuple_int _ _ k1 hu0, SeqAt.RcAt.tuple_int _ _ k1 hu0, SeqAt.RcNeAt.tuple_int _ _ k1 hu0⟩
      | str x2 =>
        simp only [Rep] at r'
        subst r'
        obtain ⟨t2, rfl⟩ := ru
        exact ⟨SeqAt.EqAt.tuple_str _ _ k1 hu0, SeqAt.RcAt.tuple_str _ _ k1 hu0, SeqAt.RcNeAt.tuple_str _ _ k1 hu0⟩
      | tup ys =>
        simp only [Rep] at r'
        obtain ⟨l2, us, rfl, h2, q2⟩ := r'
        cases ru
        obtain ⟨is2, p2, k2, _⟩ := I.tuple (sqT_mono sF h2)
        simp only [Cmp] at hc
        have el1 : is1.length = xs.length := by rw [← p1.length, reps_len q1]
        have el2 : is2.length = ys.length := by rw [← p2.length, reps_len q2]
        have at_ : ∀ j (g1 : j < is1.toArray.size) (g2 : j < is2.toArray.size), SeqAt.EqAt A.in1 s is1.toArray[j] is2.toArray[j] ((fun j => match xs[j]?, ys[j]? with | some a, some b => deq a b | _, _ => false) j) := by
          intro j g1 g2
          have g1' : j < xs.length := by simpa [el1] using g1
          have g2' : j < ys.length := by simpa [el2] using g2
          have e1 : xs[j]? = some xs[j] := by simp [g1']
          have e2 : ys[j]? = some ys[j] := by simp [g2']
          obtain ⟨w1, f1, m1⟩ := reps_get q1 e1
          obtain ⟨w2, f2, m2⟩ := reps_get q2 e2
          obtain ⟨z1, c1, b1⟩ := p1.get f1
          obtain ⟨z2, c2, b2⟩ := p2.get f2
          have y1 : is1.toArray[j] = z1 := by simpa [List.getElem?_eq_some_iff] using (List.getElem?_eq_some_iff.mp c1).2
          have y2 : is2.toArray[j] = z2 := by simpa [List.getElem?_eq_some_iff] using (List.getElem?_eq_some_iff.mp c2).2
          simp only [e1, e2]
          rw [y1, y2]
          exact (ih A.in1 _ _ w1 w2 z1 z2 (by show A.units + 1 + n + 1 < cLine; omega) (hc j _ _ e1 e2) m1 m2 b1 b2).eq
        unfold deq
        have same : l1 = l2 → deqs xs ys = true := fun e => by
          have z := same_D I sF (n + 1) (.tup xs) (.tup ys) (.ref l1) (by simp only [Cmp]; exact hc) (by simp only [Rep]; exact ⟨l1, vs, rfl, h1, q1⟩) (by simp only [Rep]; exact ⟨l2, us, by rw [e], h2, q2⟩)
          unfold deq at z; exact z
        have ev : ((List.range (min is1.toArray.size is2.toArray.size)).all (fun j => match xs[j]?, ys[j]? with | some a, some b => deq a b | _, _ => false) && is1.toArray.size == is2.toArray.size) = deqs xs ys := by
          have s1 : is1.toArray.size = xs.length := by simp [el1]
          have s2 : is2.toArray.size = ys.length := by simp [el2]
          rw [s1, s2]
          by_cases hl : xs.length = ys.length
          · rw [range_min _ hl]
            exact deqs_all hl _ fun i a b z1 z2 => by simp only [z1, z2]
          · rw [deqs_len hl, beq_false_of_ne hl, Bool.and_false]
        have rc := SeqAt.RcAt.tuples k1 k2 hu0 at_
        have rn := SeqAt.RcNeAt.tuples k1 k2 hu0 at_
        rw [ev] at rc rn
        refine ⟨?_, rc, rn⟩
        by_cases e : l1 = l2
        · rw [same e]; subst e; exact SeqAt.EqAt.same _
        · exact SeqAt.EqAt.of_refs e rc
      | lst ys =>
        simp only [Rep] at r'
        obtain ⟨l2, us, rfl, h2, q2⟩ := r'
        cases ru
        obtain ⟨is2, p2, k2', _⟩ := I.list (sF.seq h2)
        have k2 := k2'.isList
        exact ⟨SeqAt.EqAt.tuple_list k1 k2 hu0, SeqAt.RcAt.tuple_list k1 k2 hu0, SeqAt.RcNeAt.tuple_list k1 k2 hu0⟩
      | exc C =>
        exact False.elim (by simpa only [Cmp] using hc)
      | ptr _ =>
        exact False.elim (by simpa only [Cmp] using hc)
      | obj _ _ _ =>
        exact False.elim (by simpa only [Cmp] using hc)
      | dic _ _ =>
        exact False.elim (by simpa only [Cmp] using hc)
      | dit _ _ =>
        exact False.elim (by simpa only [Cmp] using hc)
    | lst xs =>
      simp only [Rep] at r
      obtain ⟨l1, vs, rfl, h1, q1⟩ := r
      cases rv
      obtain ⟨is1, p1, k1', _⟩ := I.list (sF.seq h1)
      have k1 := k1'.isList
      cases d' with
      | non =>
        simp only [Rep] at r'
        subst r'
        cases ru
        exact ⟨SeqAt.EqAt.list_none  k1 hu0, SeqAt.RcAt.list_none  k1 hu0, SeqAt.RcNeAt.list_none  k1 hu0⟩
      | bl x2 =>
        simp only [Rep] at r'
        subst r'
        cases ru
        exact ⟨SeqAt.EqAt.list_bool _ k1 hu0, SeqAt.RcAt.list_bool _ k1 hu0, SeqAt.RcNeAt.list_bool _ k1 hu0⟩
      | int x2 =>
        simp only [Rep] at r'
        subst r'
        obtain ⟨t2, rfl⟩ := ru
        exact ⟨SeqAt.EqAt.list_int _ _ k1 hu0, SeqAt.RcAt.list_int _ _ k1 hu0, SeqAt.RcNeAt.list_int _ _ k1 hu0⟩
      | str x2 =>
        simp only [Rep] at r'
        subst r'
        obtain ⟨t2, rfl⟩ := ru
        exact ⟨SeqAt.EqAt.list_str _ _ k1 hu0, SeqAt.RcAt.list_str _ _ k1 hu0, SeqAt.RcNeAt.list_str _ _ k1 hu0⟩
      | tup ys =>
        simp only [Rep] at r'
        obtain ⟨l2, us, rfl, h2, q2⟩ := r'
        cases ru
        obtain ⟨is2, p2, k2, _⟩ := I.tuple (sqT_mono sF h2)
        exact ⟨SeqAt.EqAt.list_tuple k1 k2 hu0, SeqAt.RcAt.list_tuple k1 k2 hu0, SeqAt.RcNeAt.list_tuple k1 k2 hu0⟩
      | lst ys =>
        simp only [Rep] at r'
        obtain ⟨l2, us, rfl, h2, q2⟩ := r'
        cases ru
        obtain ⟨is2, p2, k2', _⟩ := I.list (sF.seq h2)
        have k2 := k2'.isList
        simp only [Cmp] at hc
        have el1 : is1.length = xs.length := by rw [← p1.length, reps_len q1]
        have el2 : is2.length = ys.length := by rw [← p2.length, reps_len q2]
        have at_ : ∀ j (g1 : j < is1.toArray.size) (g2 : j < is2.toArray.size), SeqAt.EqAt A.in1 s is1.toArray[j] is2.toArray[j] ((fun j => match xs[j]?, ys[j]? with | some a, some b => deq a b | _, _ => false) j) := by
          intro j g1 g2
          have g1' : j < xs.length := by simpa [el1] using g1
          have g2' : j < ys.length := by simpa [el2] using g2
          have e1 : xs[j]? = some xs[j] := by simp [g1']
          have e2 : ys[j]? = some ys[j] := by simp [g2']
          obtain ⟨w1, f1, m1⟩ := reps_get q1 e1
          obtain ⟨w2, f2, m2⟩ := reps_get q2 e2
          obtain ⟨z1, c1, b1⟩ := p1.get f1
          obtain ⟨z2, c2, b2⟩ := p2.get f2
          have y1 : is1.toArray[j] = z1 := by simpa [List.getElem?_eq_some_iff] using (List.getElem?_eq_some_iff.mp c1).2
          have y2 : is2.toArray[j] = z2 := by simpa [List.getElem?_eq_some_iff] using (List.getElem?_eq_some_iff.mp c2).2
          simp only [e1, e2]
          rw [y1, y2]
          exact (ih A.in1 _ _ w1 w2 z1 z2 (by show A.units + 1 + n + 1 < cLine; omega) (hc j _ _ e1 e2) m1 m2 b1 b2).eq
        unfold deq
        have same : l1 = l2 → deqs xs ys = true := fun e => by
          have z := same_D I sF (n + 1) (.lst xs) (.lst ys) (.ref l1) (by simp only [Cmp]; exact hc) (by simp only [Rep]; exact ⟨l1, vs, rfl, h1, q1⟩) (by simp only [Rep]; exact ⟨l2, us, by rw [e], h2, q2⟩)
          unfold deq at z; exact z
        have rcn : SeqAt.RcAt A s (.ref l1) (.ref l2) (deqs xs ys) ∧ SeqAt.RcNeAt A s (.ref l1) (.ref l2) (!deqs xs ys) := by
          by_cases hl : xs.length = ys.length
          · have ev : (List.range is1.toArray.size).all (fun j => match xs[j]?, ys[j]? with | some a, some b => deq a b | _, _ => false) = deqs xs ys := by
              have s1 : is1.toArray.size = xs.length := by simp [el1]
              rw [s1]
              exact deqs_all hl _ fun i a b z1 z2 => by simp only [z1, z2]
            have hz : is1.toArray.size = is2.toArray.size := by simp [el1, el2, hl]
            have rc := SeqAt.RcAt.lists k1 k2 hz hu0 at_
            have rn := SeqAt.RcNeAt.lists k1 k2 hz hu0 at_
            rw [ev] at rc rn
            exact ⟨rc, rn⟩
          · have hz : (is1.toArray.size != is2.toArray.size) = true := by simp [el1, el2, hl]
            rw [deqs_len hl]
            exact ⟨SeqAt.RcAt.lists_lengths k1 k2 hz hu0, SeqAt.RcNeAt.lists_lengths k1 k2 hz hu0⟩
        obtain ⟨rc, rn⟩ := rcn
        refine ⟨?_, rc, rn⟩
        by_cases e : l1 = l2
        · rw [same e]; subst e; exact SeqAt.EqAt.same _
        · exact SeqAt.EqAt.of_refs e rc
      | exc C =>
        exact False.elim (by simpa only [Cmp] using hc)
      | ptr _ =>
        exact False.elim (by simpa only [Cmp] using hc)
      | obj _ _ _ =>
        exact False.elim (by simpa only [Cmp] using hc)
      | dic _ _ =>
        exact False.elim (by simpa only [Cmp] using hc)
      | dit _ _ =>
        exact False.elim (by simpa only [Cmp] using hc)
    | exc C => cases d' <;> exact False.elim (by simpa only [Cmp] using hc)
    | ptr _ => cases d' <;> exact False.elim (by simpa only [Cmp] using hc)
    | obj _ _ _ => cases d' <;> exact False.elim (by simpa only [Cmp] using hc)
    | dic _ _ => cases d' <;> exact False.elim (by simpa only [Cmp] using hc)
    | dit _ _ => cases d' <;> exact False.elim (by simpa only [Cmp] using hc)
def gEq : D → D → (D → Prop) → Prop := fun x y P => Cmp 20 x y ∧ P (.bl (deq x y))
def gNe : D → D → (D → Prop) → Prop := fun x y P => Cmp 20 x y ∧ P (.bl (!deq x y))
theorem o_eq (hu : X.A.units + 21 < cLine) : OpR X (compareOp .Eq) (rUp X.K gEq) := by
  intro pins s σ H x y u w Q I rx ry ⟨F, d1, d2, P, sF, r1, r2, h, k⟩
  exact (eq_D I sF 20 X.A d1 d2 x y u w hu h.1 r1 r2 rx ry).rc _ _ _ _ ⟨.bl _, H, I, rfl, k _ _ F H (Gr.refl sF) (by unfold Rep; rfl) h.2⟩
theorem o_ne (hu : X.A.units + 21 < cLine) : OpR X (compareOp .NotEq) (rUp X.K gNe) := by
  intro pins s σ H x y u w Q I rx ry ⟨F, d1, d2, P, sF, r1, r2, h, k⟩
  exact (eq_D I sF 20 X.A d1 d2 x y u w hu h.1 r1 r2 rx ry).ne _ _ _ _ ⟨.bl _, H, I, rfl, k _ _ F H (Gr.refl sF) (by unfold Rep; rfl) h.2⟩
end
end L3

namespace L3
open PySem PySem.Spec PyProof.Rows L2

def excSub (K : PySem.W.Frag) (C D : Addr) : Bool := match K.lookup C with
  | some ⟨_, _, .cls cd, _⟩ => cd.mro.contains (.ref D)
  | _ => false

theorem excK_sub {K : PySem.W.Frag} {h : Heap} {C : Addr} (X : K.In h) (q : ExcK K C) (D : Addr) {nm qn : Str} {N : Addr} {bs bm : List Value} {hdct : Bool} {sn : List Str} {sub : List Value} {ab : Bool} {col : Option Bool} {dd : Option Addr} {k0 k1 k2 k3 k5 : Option Value} {newId : String}
    (e : h.get? C = some (excClassObj nm qn C N bs bm hdct sn sub ab col dd k0 k1 k2 k3 k5 newId)) : (Value.ref C :: bm).contains (.ref D) = excSub K C D := by
  unfold ExcK excB at q
  split at q
  · rename_i ho
    have z := X _ _ ho
    rw [e] at z
    unfold excSub
    rw [ho]
    unfold excClassObj at z
    cases z
    rfl
  · cases q

section
variable {M : Model} {A : Around} {E : Value → Shared → Prop} {h : Heap} {g : Array GenState} {d : Drawn} {t : Nat} {os : OsState}
  {nm q nm' q' : Str} {C N C' N' : Addr} {bs bm bs' bm' : List Value} {hdct hdct' : Bool} {sn sn' : List Str} {sub sub' : List Value} {ab ab' : Bool} {col col' : Option Bool} {dd dd' : Option Addr} {k0 k1 k2 k3 k5 j0 j1 j2 j3 j5 : Option Value} {newId newId' : String}
theorem exc_matches {a : Addr} {oe : Obj} {Q : Bool → Shared → Prop} (hC : h.get? C = some (excClassObj nm q C N bs bm hdct sn sub ab col dd k0 k1 k2 k3 k5 newId)) (hD : h.get? C' = some (excClassObj nm' q' C' N' bs' bm' hdct' sn' sub' ab' col' dd' j0 j1 j2 j3 j5 newId'))
    (he : h.get? a = some oe) (hcls : oe.cls = .ref C) (hbase : bm'.contains (.type "BaseException") = true) (hq : Q ((Value.ref C :: bm).contains (.ref C')) ⟨h, g, d, t, os⟩) : wpAny M A (excMatches (.ref a) (.ref C')) Q E ⟨h, g, d, t, os⟩ := by
  have cb : (Value.ref C' :: bm').contains (.type "BaseException") = true := by rw [List.contains_cons, hbase, Bool.or_true]
  have nt := tc_notTuple
  generalize hk : (Value.ref C :: bm).contains (.ref C') = k at hq
  unfold excMatches
  repeat (first | (with_reducible refine wpAny_loadPart_at he ?_; rw [hcls]) | with_reducible refine wpAny_loadPart_at hD ?_ | (with_reducible refine wpAny_isSubtype_exc hD ?_; rw [cb]) | (with_reducible refine wpAny_isSubtype_exc hC ?_; rw [hk]) | wp_step)
  cases k <;> (wp_walk; exact hq)
end

abbrev _root_.L2.Cx.hand (X : Cx) (a : Addr) : Cx := { X with A := X.A.mark (some (.ref a)), calm := false }
section
variable {X : Cx} {pins : List (Addr × Obj)} {σ : St} {H : Hp} {s : Shared} {a : Addr}
theorem ok_hand (ok : X.Ok) (a : Addr) : (X.hand a).Ok :=
  ⟨ok.mod, ok.kind, ok.glob, ok.blt, ok.above, ok.inj, ok.has, ok.cab, fun z => absurd z (by simp), ok.frames, ok.stk, ok.exf, ok.bs, ok.bsz, ok.noex, ok.exfs, ok.funs, ok.frf⟩
theorem inv_hand (I : Inv X pins σ H s) (a : Addr) : Inv (X.hand a) pins σ H s := ⟨ok_hand I.ok a, I.os, I.bare, I.base, I.loc, I.cell, I.free, I.freeC, I.pin, I.hok, I.len⟩
theorem ok_wsh (ok : X.Ok) (z : Wsh) : (X.wsh z).Ok := ⟨ok.mod, ok.kind, ok.glob, ok.blt, ok.above, ok.inj, ok.has, ok.cab, ok.hd, ok.frames, ok.stk, ok.exf, ok.bs, ok.bsz, ok.noex, ok.exfs, ok.funs, ok.frf⟩
theorem inv_pn {z : Wsh} {xe : Value → Shared → Prop} (I : Inv (X.wsh z) pins σ H s) : Inv (X.wsh ⟨xe, z.pn ++ pins⟩) [] σ H s :=
  ⟨ok_wsh I.ok _, I.os, I.bare, I.base, I.loc, I.cell, I.free, I.freeC, fun p hp => I.pin p (by simpa using hp), I.hok, I.len⟩
theorem inv_pn' {z : Wsh} {xe : Value → Shared → Prop} {pins' : List (Addr × Obj)} (I : Inv (X.wsh ⟨xe, z.pn ++ pins⟩) pins' σ H s) : Inv (X.wsh z) pins σ H s :=
  ⟨ok_wsh I.ok _, I.os, I.bare, I.base, I.loc, I.cell, I.free, I.freeC, fun p hp => I.pin p (List.mem_append_left _ hp), I.hok, I.len⟩
theorem sp_pn {z : Wsh} {xe : Value → Shared → Prop} {D : Ends} {f : Flow} {pins' : List (Addr × Obj)} (h : SP (X.wsh ⟨xe, z.pn ++ pins⟩) pins' D f s) : SP (X.wsh z) pins D f s := by
  cases f with
  | next => obtain ⟨σ', H', I, q⟩ := h; exact ⟨σ', H', inv_pn' I, q⟩
  | brk => obtain ⟨σ', H', I, q⟩ := h; exact ⟨σ', H', inv_pn' I, q⟩
  | cont => obtain ⟨σ', H', I, q⟩ := h; exact ⟨σ', H', inv_pn' I, q⟩
  | ret u => obtain ⟨v, σ', H', I, r, q⟩ := h; exact ⟨v, σ', H', inv_pn' I, r, q⟩
theorem inv_unhand {z : Wsh} {xe : Value → Shared → Prop} (ok : (X.wsh z).Ok) (I : Inv ((X.hand a).wsh ⟨xe, z.pn⟩) pins σ H s) : Inv (X.wsh z) pins σ H s :=
  ⟨ok, I.os, I.bare, I.base, I.loc, I.cell, I.free, I.freeC, I.pin, I.hok, I.len⟩
theorem sp_unhand {z : Wsh} {xe : Value → Shared → Prop} {D : Ends} {f : Flow} (ok : (X.wsh z).Ok) (h : SP ((X.hand a).wsh ⟨xe, z.pn⟩) pins D f s) : SP (X.wsh z) pins D f s := by
  cases f with
  | next => obtain ⟨σ', H', I, q⟩ := h; exact ⟨σ', H', inv_unhand ok I, q⟩
  | brk => obtain ⟨σ', H', I, q⟩ := h; exact ⟨σ', H', inv_unhand ok I, q⟩
  | cont => obtain ⟨σ', H', I, q⟩ := h; exact ⟨σ', H', inv_unhand ok I, q⟩
  | ret u => obtain ⟨v, σ', H', I, r, q⟩ := h; exact ⟨v, σ', H', inv_unhand ok I, r, q⟩
end

def noX : XW := fun _ _ => False
theorem EndR.base {K : PySem.W.Frag} {F0 H0 F H : Hp} {D2 : End2} {D : Ends} (k : EndR K F0 H0 F D2 D) (g : Gr F0 H0 F H) : EndR K F H0 F D2 D :=
  ⟨fun Γ F' H' σ R s h => k.nx Γ F' H' σ (R.unbase g) s h, fun Γ F' H' σ R s h => k.bk Γ F' H' σ (R.unbase g) s h, fun Γ F' H' σ R s h => k.ct Γ F' H' σ (R.unbase g) s h, fun d v F' H' gr r h => k.rt d v F' H' (g.unbase gr) r h, fun d v F' H' gr r h => k.rf d v F' H' (g.unbase gr) (rep_mono (lessL_anti g.f) d v r) h, fun t v as F' H' gr nd hn r h => k.rT t v as F' H' (g.unbase gr) nd hn r h⟩
section
variable {X : Cx} {pins : List (Addr × Obj)} {σ : St} {H : Hp} {s : Shared}
theorem ctx_never {F0 H0 : Hp} {pn : List (Addr × Obj)} : Ctx (X.wsh ⟨fun _ _ => False, pn⟩) F0 H0 noX :=
  ⟨fun _ _ _ _ _ _ _ _ _ _ h => by obtain ⟨_, _, _, _, _, _, _, _, _, _, _, _, h, _⟩ := h; exact h.elim, PassesOwn.never⟩
theorem unbind_ok {M : Model} {A : Around} {E : Value → Shared → Prop} {Q : Unit → Shared → Prop} {i : Nat} {n : Str} {v : V} (I : Inv X pins σ H s) (hN : X.N.Nodup) (hi : X.N[i]? = some n) (hk : X.env.scope.names.lookup n = some .local) (hσ : σ[i]? = some (some v))
    (h : ∀ s', Inv X pins (σ.set i none) H s' → Q () s') : wpAny M A (unbindName X.env n) Q E s := by
  obtain ⟨m, hn, hl⟩ := id I.loc
  obtain ⟨u, r, l⟩ := hl i n v hi hσ (.inl hk)
  have hm : m n = some u := by
    rcases l with ⟨_, e⟩ | ⟨k, _⟩
    · exact e
    · have k' : X.env.scope.names.lookup n = some .cell ∨ X.env.scope.names.lookup n = some .free := k
      rw [hk] at k'
      rcases k' with k' | k' <;> cases k'
  have hcls : (X.env.scope.kind == .class || (X.env.scope.kind == .module && X.env.locals != X.env.globals)) = false := by rw [I.ok.kind]; rfl
  have hiσ : i < σ.length := (List.getElem?_eq_some_iff.mp hσ).1
  have cne := I.cne
  refine wpAny_unbindName_local hk hn hm hcls fun h' u' hn' hs => ?_
  have old : ∀ b o, X.s₀.heap.get? b = some o → b ≠ X.env.locals := fun b o e => Nat.ne_of_lt (Nat.lt_of_lt_of_le (Heap.lt_size e) I.ok.above)
  refine h _ ⟨I.ok, I.os, I.bare, ⟨fun b o e n hb hx => ?_, fun b o e n hb hx => ?_, I.base.free, fun b o e hx => ?_, I.base.tups, I.base.frzs, I.base.tbls⟩, ⟨_, hn', fun j y v' e1 e2 e3 => ?_⟩, fun y c e => ?_, I.free, I.freeC, fun p hp => ?_, fun b ob e => ?_, by simpa using I.len⟩
  · exact (hs.2 b (old b o e)).trans (I.base.keep b o e n hb hx)
  · obtain ⟨sl, e1⟩ := I.base.slot b o e n hb hx
    exact ⟨sl, (hs.2 b (old b o e)).trans e1⟩
  · obtain ⟨o', e1⟩ := I.base.there b o e hx
    exact ⟨o', (hs.2 b (old b o e)).trans e1⟩
  · have hj : i ≠ j := fun z => by
      subst z
      rw [List.getElem?_set_self hiσ] at e2; cases e2
    rw [List.getElem?_set_ne hj] at e2
    obtain ⟨w, r', q⟩ := hl j y v' e1 e2 e3
    refine ⟨w, r', ?_⟩
    rcases q with ⟨k, e⟩ | ⟨k, c, e, z⟩
    · refine .inl ⟨k, ?_⟩
      have : y ≠ n := fun e => hj (nodup_ix hN hi (e ▸ e1))
      simp [this, e]
    · exact .inr ⟨k, c, e, z.sameBut hs (cne y c e)⟩
  · obtain ⟨w', z⟩ := I.cell y c e
    exact ⟨w', z.sameBut hs (cne y c e)⟩
  · obtain ⟨e, n, ne, nf, d⟩ := I.pin p hp
    exact ⟨(hs.2 p.1 ne).trans e, n, ne, nf, d⟩
  · refine (I.hok b ob e).stay (fun c w' hc q => (hs.2 c ?_).trans q) (fun _ q => q) fun _ _ q => q
    rintro rfl
    rcases hc with z | hc
    · rw [← z, I.free] at e; cases e
    · rw [I.free] at hc; cases hc
end
def cTry (K : PySem.W.Frag) (Cd : Addr) (tb th : TS2) : TS2 := fun D Γ _ => tb D Γ fun Γ1 Cv => ∃ C, Cv = .ref C ∧ ExcK K C ∧ excSub K C Cd = true ∧ th D Γ1 noX
def cTryA (K : PySem.W.Frag) (Cd : Addr) (i : Nat) (tb th : TS2) : TS2 := fun D Γ _ => tb D Γ fun Γ1 Cv => ∃ C, Cv = .ref C ∧ ExcK K C ∧ excSub K C Cd = true ∧
  th { nx := fun Γ' => D.nx (Γ'.set i .no), rt := D.rt, bk := fun Γ' => D.bk (Γ'.set i .no), ct := fun Γ' => D.ct (Γ'.set i .no) } (Γ1.set i (.pu (.exc C))) noX
section
variable {X : Cx} {F0 H0 : Hp} {pos np hp : Pos} {x n : Str} {Cd : Addr} {body suite : List Stmt} {b₀ : Stmt} {tb th : TS2}
end
end L3

namespace L3
open PySem PySem.Spec PyProof.Rows L2

def cU (g : D → (D → Prop) → Prop) (ta : TE2) : TE2 := fun Γ P E => ta Γ (fun d Γ1 => g d fun d' => P d' Γ1) E
def gNeg : D → (D → Prop) → Prop := fun x P => match x with | .int i => P (.int (-i)) | _ => False
def rUpA (K : PySem.W.Frag) (g : List D → (D → Prop) → Prop) : List V → Hp → VK → Prop := fun vs H Q => ∃ F ds P, Same F H ∧ Reps K F ds vs ∧ g ds P ∧ ∀ d z F' H', Gr F H F' H' → Rep K F' d z → P d → Q z H'
def cCB (g : List D → (D → Prop) → Prop) (t : TF2) : TE2 := fun Γ P E => t Γ (fun ds Γ1 => g ds fun d => P d Γ1) E
def gIx : D → D → (D → Prop) → Prop := fun x y P => match x, y with
  | .lst xs, .int i => ∃ d, atI xs i = some d ∧ P d
  | .tup xs, .int i => ∃ d, atI xs i = some d ∧ P d
  | .str z, .int i => ∃ c, z.length ≤ sizeLine ∧ atI z.cps.toList i = some c ∧ P (.str ⟨#[c]⟩)
  | _, _ => False
theorem atI_reps {K : PySem.W.Frag} {F : Hp} {ds : List D} {vs : List V} {i : Int} {d : D} (r : Reps K F ds vs) (h : atI ds i = some d) : ∃ v, atI vs i = some v ∧ Rep K F d v := by
  unfold atI at h ⊢
  rw [← reps_len r]
  cases q : ixN ds.length i with
  | none => rw [q] at h; cases h
  | some j =>
    rw [q] at h
    exact reps_get r h
section
variable {X : Cx} {F0 H0 : Hp} {a b e : Expr} {es : List Expr} {pos p : Pos} {ta tb te : TE2} {t : TF2} {x : Str}
theorem qe_neg (ha : QE X F0 H0 a ta) : QE X F0 H0 (.UnaryOp .USub a pos) (cU gNeg ta) := fun z E cx =>
  peC (pe_un un_neg (ha z E cx)) fun σ H Q ⟨F, Γ, P, R, h, k⟩ => ⟨F, Γ, _, R, h, fun d Γ1 F1 H1 v R1 s1 r q => by
    cases d with
    | int i =>
      unfold Rep at r
      exact ⟨i, r, k _ _ _ _ _ R1 s1 (by unfold Rep; rfl) q⟩
    | _ => exact False.elim q⟩
theorem cCB_up {K : PySem.W.Frag} {g : List D → (D → Prop) → Prop} {E : XW} {σ : St} {H : Hp} {Q : VK} (h : upE K F0 H0 (cCB g t) E σ H Q) : tCB (rUpA K g) (upA K F0 H0 t E) σ H Q := by
  obtain ⟨F, Γ, P, R, h, k⟩ := h
  exact ⟨F, Γ, _, R, h, fun ds Γ1 F1 H1 vs R1 s1 r1 h1 => ⟨F1, ds, _, R1.g, r1, h1, fun d z F' H' gr rz hp => k d Γ1 F' H' z (R1.grow gr) (s1.trans gr.f) rz hp⟩⟩
theorem qe_callB {id : String} {g : List D → (D → Prop) → Prop} (hc : ∀ z, CallR (X.wsh z) (.builtin id) (rUpA X.K g)) (hg : Gl X x) (hm : X.mg x = none) (hv : bootBuiltins x = some (.builtin id)) (ha : QA X F0 H0 (e :: es) t) (hn : x ≠ "__name__" := by decide) (hdb : (x == ("__debug__" : Str)) = false := by decide)
    (he : starEach (e :: es) X.env = (false, eval e X.env) :: starEach es X.env := by rfl) (hpl : (backTo pos (starEach es X.env)).any (·.1) = false := by rfl) : QE X F0 H0 (.Call (.Name x p) (e :: es) [] pos) (cCB g t) := fun z E cx =>
  peC (pe_callB (X := X.wsh z) (hc z) hg hm hv (ha z E cx) hn hdb he hpl) fun _ _ _ h => cCB_up h
theorem qe_ix (ha : QE X F0 H0 a ta) (hb : QE X F0 H0 b tb) (hs : PlainIx b) : QE X F0 H0 (.Subscript a b pos) (cB gIx ta tb) := fun z E cx =>
  peC (pe_ix (X := X.wsh z) (r := rUp X.K gIx) (by
    intro value slice pins s σ H x y v u Q I rx ry ⟨F, d1, d2, P, sF, r1, r2, h, k⟩ hs
    unfold gIx at h
    split at h
    · unfold Rep at r1 r2
      obtain ⟨p, vs, rfl, hq, rs⟩ := r1
      subst r2
      obtain ⟨d, e, hp⟩ := h
      obtain ⟨w, ew, rw'⟩ := atI_reps rs e
      exact ix_list value slice pins s σ H _ _ v u Q I rx ry ⟨p, vs, _, w, rfl, rfl, sF.seq hq, ew, k _ _ F H (Gr.refl sF) rw' hp⟩ hs
    · unfold Rep at r1 r2
      obtain ⟨p, vs, rfl, hq, rs⟩ := r1
      subst r2
      obtain ⟨d, e, hp⟩ := h
      obtain ⟨w, ew, rw'⟩ := atI_reps rs e
      exact ix_tup value slice pins s σ H _ _ v u Q I rx ry ⟨p, vs, _, w, rfl, rfl, sqT_mono sF hq, ew, k _ _ F H (Gr.refl sF) rw' hp⟩ hs
    · unfold Rep at r1 r2
      subst r1 r2
      obtain ⟨c, hz, e, hp⟩ := h
      exact ix_str value slice pins s σ H _ _ v u Q I rx ry ⟨_, _, c, rfl, rfl, hz, e, k _ _ F H (Gr.refl sF) (by unfold Rep; rfl) hp⟩ hs
    · exact h.elim) (ha z E cx) (hb z E cx) hs) fun _ _ _ h => cB_up h
end

def u_abs : List D → (D → Prop) → Prop := fun ds P => match ds with | [.int i] => P (.int (if i < 0 then -i else i)) | _ => False
def u_len : List D → (D → Prop) → Prop := fun ds P => match ds with | [.lst xs] => P (.int xs.length) | [.tup xs] => P (.int xs.length) | [.str z] => z.length ≤ sizeLine ∧ P (.int z.length) | _ => False
def u_max : List D → (D → Prop) → Prop := fun ds P => match ds with | [.int i, .int j] => P (.int (if j > i then j else i)) | _ => False
def u_min : List D → (D → Prop) → Prop := fun ds P => match ds with | [.int i, .int j] => P (.int (if j < i then j else i)) | _ => False
section
variable {X : Cx}
theorem q_abs : CallR X (.builtin "abs") (rUpA X.K u_abs) := by
  intro pins s σ H xs us Q I r ⟨F, ds, P, sF, rs, h, k⟩
  unfold u_abs at h
  split at h
  · unfold Reps Reps Rep at rs
    obtain ⟨v, _, rfl, rfl, rfl⟩ := rs
    exact call_abs pins s σ H _ us Q I r ⟨_, rfl, k _ _ F H (Gr.refl sF) (by unfold Rep; rfl) h⟩
  · exact h.elim
theorem q_len : CallR X (.builtin "len") (rUpA X.K u_len) := by
  intro pins s σ H xs us Q I r ⟨F, ds, P, sF, rs, h, k⟩
  unfold u_len at h
  split at h
  · unfold Reps Reps Rep at rs
    obtain ⟨v, _, rfl, ⟨p, vs, rfl, hq, rs⟩, rfl⟩ := rs
    rw [reps_len rs] at h
    exact call_len_seq pins s σ H _ us Q I r ⟨p, vs, rfl, .inl (sF.seq hq), k _ _ F H (Gr.refl sF) (by unfold Rep; rfl) h⟩
  · unfold Reps Reps Rep at rs
    obtain ⟨v, _, rfl, ⟨p, vs, rfl, hq, rs⟩, rfl⟩ := rs
    rw [reps_len rs] at h
    exact call_len_seq pins s σ H _ us Q I r ⟨p, vs, rfl, .inr (sqT_mono sF hq), k _ _ F H (Gr.refl sF) (by unfold Rep; rfl) h⟩
  · unfold Reps Reps Rep at rs
    obtain ⟨v, _, rfl, rfl, rfl⟩ := rs
    exact call_len_str pins s σ H _ us Q I r ⟨_, rfl, h.1, k _ _ F H (Gr.refl sF) (by unfold Rep; rfl) h.2⟩
  · exact h.elim
theorem q_max (hc : X.calm = true) : CallR X (.builtin "max") (rUpA X.K u_max) := by
  intro pins s σ H xs us Q I r ⟨F, ds, P, sF, rs, h, k⟩
  unfold u_max at h
  split at h
  · unfold Reps Reps Reps Rep at rs
    obtain ⟨v, _, rfl, rfl, v2, _, rfl, rfl, rfl⟩ := rs
    exact call_max2 hc pins s σ H _ us Q I r ⟨_, _, rfl, k _ _ F H (Gr.refl sF) (by unfold Rep; rfl) h⟩
  · exact h.elim
theorem q_min (hc : X.calm = true) : CallR X (.builtin "min") (rUpA X.K u_min) := by
  intro pins s σ H xs us Q I r ⟨F, ds, P, sF, rs, h, k⟩
  unfold u_min at h
  split at h
  · unfold Reps Reps Reps Rep at rs
    obtain ⟨v, _, rfl, rfl, v2, _, rfl, rfl, rfl⟩ := rs
    exact call_min2 hc pins s σ H _ us Q I r ⟨_, _, rfl, k _ _ F H (Gr.refl sF) (by unfold Rep; rfl) h⟩
  · exact h.elim
end

def tyD : D → Option String
  | .non => some "NoneType" | .bl _ => some "bool" | .int _ => some "int" | .str _ => some "str" | .tup _ => some "tuple" | .lst _ => some "list" | .exc _ => none | .ptr _ => none | .obj _ _ _ => none | .dic _ _ => none | .dit _ _ => none
def isiB (d : D) (T : String) : Option Bool := (tyD d).bind fun S => PySem.W.kitOne [] (.type S) (.type T)
def cIsi (T : String) (ta : TE2) : TE2 := fun Γ P E => ta Γ (fun d Γ1 => match isiB d T with | some b => P (.bl b) Γ1 | none => False) E
theorem kitOne_any (K K' : PySem.W.Frag) (S T : String) : PySem.W.kitOne K (.type S) (.type T) = PySem.W.kitOne K' (.type S) (.type T) := rfl
section
variable {X : Cx} {pins : List (Addr × Obj)} {σ : St} {F H : Hp} {s : Shared}
theorem isi_ok {A : Around} {E : Value → Shared → Prop} {Q : Value → Shared → Prop} {d : D} {x : V} {u c : Value} {S : String} {b : Bool} (I : Inv X pins σ H s) (sF : Same F H) (r : Rep X.K F d x) (rx : RelV x u) (hS : tyD d = some S) (e : PySem.W.kitOne X.K (.type S) c = some b)
    (h : ∀ tk, Q (.bool b) { s with toks := tk }) : wpAny (model X.prog X.w) A (call (.builtin "isinstance") [u, c]) Q E s := by
  cases d with
  | non => unfold Rep at r; subst r; cases hS; exact isinst_ok I rx (.non) e h
  | bl y => unfold Rep at r; subst r; cases hS; exact isinst_ok I rx (.bl y) e h
  | int y => unfold Rep at r; subst r; cases hS; exact isinst_ok I rx (.int y) e h
  | str y => unfold Rep at r; subst r; cases hS; exact isinst_ok I rx (.str y) e h
  | tup xs =>
    unfold Rep at r; cases hS
    obtain ⟨a, vs, rfl, hq, _⟩ := r
    cases rx
    obtain ⟨its, _, ⟨o, h1, h2, _⟩, _⟩ := I.tuple (sqT_mono sF hq)
    exact PySem.W.kia_one PySem.W.kitx_tuple I.kIn ⟨o, h1, h2⟩ e (fun z => nomatch z) h
  | lst xs =>
    unfold Rep at r; cases hS
    obtain ⟨a, vs, rfl, hq, _⟩ := r
    cases rx
    obtain ⟨its, _, ⟨o, n, h1, h2, _⟩, _⟩ := I.list (sF.seq hq)
    exact PySem.W.kia_one PySem.W.kitx_list I.kIn ⟨o, h1, h2⟩ e (fun z => nomatch z) h
  | exc C => cases hS
  | ptr _ => cases hS
  | obj _ _ _ => cases hS
  | dic _ _ => cases hS
  | dit _ _ => cases hS
end
section
variable {X : Cx} {F0 H0 : Hp} {a : Expr} {pos p pt : Pos} {ta : TE2} {x : Str} {T : String}
theorem qe_isi (ha : QE X F0 H0 a ta) (hg : Gl X "isinstance") (hm : X.mg "isinstance" = none) (hgT : Gl X x) (hmT : X.mg x = none) (hv : bootBuiltins x = some (.type T)) (hn : x ≠ "__name__" := by decide) (hd : (x == ("__debug__" : Str)) = false := by decide)
    (he : starEach [a, .Name x pt] X.env = (false, eval a X.env) :: starEach [.Name x pt] X.env := by rfl) (he2 : starEach [.Name x pt] X.env = [(false, eval (.Name x pt) X.env)] := by rfl) : QE X F0 H0 (.Call (.Name "isinstance" p) [a, .Name x pt] [] pos) (cIsi T ta) := fun z E cx => by
  have pT : PE (X.wsh z) (.Name x pt) (tC (.ty T)) := pe_bltn (X := X.wsh z) hgT hmT hv rfl hn hd
  refine peC (pe_callB (X := X.wsh z) (id := "isinstance") (r := fun vs H Q => ∃ (F : Hp) (d : D) (x : V) (P : Bool → Prop), vs = [x, .ty T] ∧ Same F H ∧ Rep X.K F d x ∧ (match isiB d T with | some b => P b | none => False) ∧ ∀ b, P b → Q (.bl b) H) ?_ hg hm boot_isinstance (pa_cons (ha z E cx) (pa_cons pT pa_nil (by rw [he2]; rfl)) he) (by decide) (by decide) he (by rw [he2]; rfl)) fun σ H Q ⟨F, Γ, P, R, h, k⟩ => ?_
  · intro pins s σ H xs us Q I r ⟨F, d, y, P, e1, sF, rd, hb, k⟩
    subst e1
    obtain ⟨u, w, rfl, ru, rw'⟩ := vals2 r
    obtain rfl : w = Value.type T := rw'
    unfold isiB at hb
    cases hS : tyD d with
    | none => rw [hS] at hb; exact hb.elim
    | some S =>
      rw [hS] at hb
      cases hk : PySem.W.kitOne [] (.type S) (.type T) with
      | none => simp only [Option.bind_some, hk] at hb
      | some b =>
        simp only [Option.bind_some, hk] at hb
        exact isi_ok I sF rd ru hS (kitOne_any X.K [] S T ▸ hk) fun tk => ⟨.bl b, H, I.tok tk, rfl, k b hb⟩
  · refine ⟨F, Γ, _, R, h, fun d Γ1 F1 H1 v R1 s1 r1 h1 => ⟨F1, d, v, fun b => P (.bl b) Γ1, rfl, R1.g, r1, h1, fun b hp => k _ _ _ _ _ R1 s1 (by unfold Rep; rfl) hp⟩⟩
end

def cRaise (C : Addr) (t : TF2) : TS2 := fun _ Γ E => t Γ (fun ds Γ1 => ds.length ≤ sizeLine ∧ E Γ1 (.ref C)) E
section
variable {X : Cx} {F0 H0 : Hp} {e : Expr} {es : List Expr} {pos np cpos : Pos} {t : TF2} {x : Str} {C : Addr}
end

structure Fn2 (P : Program) (w : World) (K : PySem.W.Frag) (mg : Str → Option Value) (base : Heap) (x : Str) (k : Nat) (ps : List Str) (sp : Sp2) : Prop where
  ex : ∃ f fd, FnOk P w K mg base (CX1 P w) k f fd ps (spUp K sp) ∧ mg x = some (.ref f) ∧ PySem.W.keepIn K (.ref f) = true ∧ Binds K fd ps []
section
variable {X : Cx} {F0 H0 : Hp} {e : Expr} {es : List Expr} {pos p : Pos} {x : Str} {ps : List Str} {k : Nat} {sp : Sp2} {t : TF2}
theorem qe_callF (G : Fn2 X.prog X.w X.K X.mg X.base x k ps sp) (hr : Room k X.A) (hg : Gl X x) (ha : QA X F0 H0 (e :: es) t) (hdb : (x == ("__debug__" : Str)) = false := by decide) (he : starEach (e :: es) X.env = (false, eval e X.env) :: starEach es X.env := by rfl) (hpl : (backTo pos (starEach es X.env)).any (·.1) = false := by rfl) :
    QE X F0 H0 (.Call (.Name x p) (e :: es) [] pos) (cCall sp t) := by
  obtain ⟨f, fd, h1, h2, h3, h4⟩ := G.ex
  exact qe_call h1 hr hg h2 h3 h4 ha hdb he hpl
end
end L3

namespace L3
open PySem PySem.Spec PyProof.Rows L2

section
variable {X : Cx} {pins : List (Addr × Obj)} {σ : St} {H : Hp} {s : Shared} {a : Addr} {o : HO}
theorem Inv.track (I : Inv X pins σ H s) (hn : H a = none) (ok : ObjOk X.prog X.w (L2.upd H a o) s.heap a o) (n0 : X.s₀.heap.get? a = none) (nl : a ≠ X.env.locals) (nc : ∀ x c, X.env.cells.lookup x = some c → c ≠ a) (np : ∀ p ∈ X.pn ++ pins, p.1 ≠ a) : Inv X pins σ (L2.upd H a o) s := by
  refine ⟨I.ok, I.os, I.bare, ⟨I.base.keep, I.base.slot, fun b u e n hx => ?_, I.base.there, fun b xs e => ?_, fun b u xs e => ?_, fun b ps e => ?_⟩, I.loc, I.cell, ?_, fun x c e => ?_, fun p hp => ?_, fun b u e => ?_, I.len⟩
  · rw [upd_ne (fun z => by rw [z, n0] at e; cases e)]; exact I.base.free b u e n hx
  · have q := I.base.tups b xs e
    rw [upd_ne (ne_of_none q hn)]; exact q
  · have q := I.base.frzs b u xs e
    rw [upd_ne (ne_of_none q hn)]; exact q
  · obtain ⟨m, q⟩ := I.base.tbls b ps e
    exact ⟨m, by rw [upd_ne (ne_of_none q hn)]; exact q⟩
  · rw [upd_ne (Ne.symm nl)]; exact I.free
  · rw [upd_ne (nc x c e)]; exact I.freeC x c e
  · obtain ⟨e, n, ne, nf, d⟩ := I.pin p hp
    exact ⟨e, by rw [upd_ne (np p hp)]; exact n, ne, nf, d⟩
  · by_cases hb : b = a
    · subst hb; rw [upd_same] at e; cases e; exact ok
    · rw [upd_ne hb] at e
      exact (I.hok b u e).stay (fun c v _ q => q) (fun c q => by rw [upd_ne (ne_of_none q hn)]; exact q) fun c xs q => by rw [upd_ne (ne_of_none q hn)]; exact q
end
section
variable {X : Cx} {F0 H0 : Hp} {pos np hp : Pos} {x n : Str} {Cd : Addr} {body suite : List Stmt} {b₀ : Stmt} {tb th : TS2} {i : Nat}
theorem qs_tryA (hex : X.ex = []) (hst : X.stack = X.env :: X.outer) (hfr : X.env.frame = some X.env.locals) (hN : X.N.Nodup) (hi : X.N[i]? = some n) (hl : X.env.scope.names.lookup n = some .local) (hg : Gl X x) (hm : X.mg x = some (.ref Cd)) (hC : ExcC X.K Cd) (hb : ∀ F, QSs X F H0 body tb)
    (hh : ∀ a F, QSs (X.hand a) F H0 (b₀ :: suite) th) (hd : (x == ("__debug__" : Str)) = false := by decide) : QS X F0 H0 (.Try body [.ExceptHandler (some (.Name x np)) (some n) (b₀ :: suite) hp] [] [] pos) (cTryA X.K Cd i tb th) := by
  intro z E cx pins s σ H D I ⟨F, Γ, D2, R, h, k⟩
  refine wpAny_Try_except ?_
  have key := hb F ⟨fun e s₁ => wpAny (model X.prog X.w) X.A (noteFrame e X.env) (fun _ s₂ => wpAny (model X.prog X.w) X.A (setFlight e none) (fun _ s₃ => wpAny (model X.prog X.w) X.A (handleBy e X.env [.ExceptHandler (some (.Name x np)) (some n) (b₀ :: suite) hp]) (SP (X.wsh z) pins D) z.xe s₃) z.xe s₂) z.xe s₁, z.pn ++ pins⟩
    (fun Γ1 Cv => ∃ C, Cv = .ref C ∧ ExcK X.K C ∧ excSub X.K C Cd = true ∧ th { nx := fun Γ' => D2.nx (Γ'.set i .no), rt := D2.rt, bk := fun Γ' => D2.bk (Γ'.set i .no), ct := fun Γ' => D2.ct (Γ'.set i .no) } (Γ1.set i (.pu (.exc C))) noX) ⟨?px, PassesOwn.looking⟩ [] s σ H D (inv_pn I) ⟨F, Γ, D2, R.base, h, k.base R.gr⟩
  · refine wpAny_mono key (fun f s1 q => ?_) fun _ _ q => q
    have q' := sp_pn q
    cases f with
    | next => exact wpAny_execs_nil q'
    | ret v => exact q'
    | brk => exact q'
    | cont => exact q'
  · intro pins' σ1 Γ1 F1 H1 s1 e s' I' R1 hx
    have I1 : Inv (X.wsh z) pins σ1 H1 s1 := inv_pn' I'
    obtain ⟨a, Cv, H', B, rfl, os, bare, un, hok, air, inB, trk, ⟨C, rfl, hCc, hsub, hth⟩, _, hS⟩ := hx
    show wpAny (model X.prog X.w) X.A (noteFrame (.ref a) X.env) _ _ _
    refine air_look (env := X.env) (outer := X.outer) (I1.ok.frames.trans (congrArg some hst)) hfr (by rw [← hst]; exact air) fun h4 a0 held up4 => ?_
    refine wpAny_landsW held fun h5 fl up5 => ?_
    have I5 : Inv (X.wsh z) pins σ1 H' { s' with heap := h5 } := Inv.landed (t' := s'.toks) I1 hex os bare un hok air.1 fl.1 inB trk (up4.trans up5)
    obtain ⟨ob, hob, hobc⟩ := fl.there
    refine wpAny_handleBy_cons (codeAny_handlers_test (ld_glob (X := (X.wsh z).hand a) (inv_hand I5 a) hg hm ?_ hd)) (by intro q; cases q)
    obtain ⟨bm, N, nm, qn, bs, hdct, sn, sub, ab, col, dd, k0, k1, k2, k3, k5, e1, _, _, _⟩ := excB_obj I5.kIn hCc
    obtain ⟨bm', N', nm', qn', bs', hdct', sn', sub', ab', col', dd', j0, j1, j2, j3, j5, mN', e2, _, _, tl⟩ := excC_obj I5.kIn hC
    refine exc_matches e1 e2 hob hobc (tl.hasType PySem.F.excBase_ValueError.hasBase) ?_
    rw [excK_sub I5.kIn hCc Cd e1, hsub]
    refine codeAny_handlers_suite_as (lands_againW fl fun h6 fl6 up6 => ?_)
    have I6 : Inv (X.wsh z) pins σ1 H' { s' with heap := h6 } := Inv.landed (t' := s'.toks) I1 hex os bare un hok air.1 fl6.1 inB trk ((up4.trans up5).trans up6)
    obtain ⟨oe, vs, T, oT, ts, g1, g2, g3, _⟩ := fl6.2.2.2
    have nB : B.get? a = none := fl6.2.1
    have nH : H' a = none := by
      cases q : H' a with
      | none => rfl
      | some u => obtain ⟨o', e'⟩ := trk a u q; rw [nB] at e'; cases e'
    have nfs : a ∉ frs X.stack := fun hm => by
      obtain ⟨_, o2, e2, nf⟩ := I1.stack.mem hm
      obtain ⟨sl, e3⟩ := un.any e2 (I1.stkFree a hm) (by simp)
      obtain ⟨sl', e4⟩ := ((up4.trans up5).trans up6) a _ e3 nf
      rw [g1] at e4; cases e4
      exact nf _ g3
    have gone : ∀ o, s1.heap.get? a = some o → False := fun o e => by
      obtain ⟨o', e'⟩ := inB a o e nfs
      rw [nB] at e'; cases e'
    have none1 : s1.heap.get? a = none := by
      cases q : s1.heap.get? a with
      | none => rfl
      | some o => exact (gone o q).elim
    have none0 : X.s₀.heap.get? a = none := by
      cases q : X.s₀.heap.get? a with
      | none => rfl
      | some o =>
        obtain ⟨o', e'⟩ := I1.base.there a o q (by show a ∉ X.ex; rw [hex]; simp)
        rw [none1] at e'; cases e'
    have nloc : a ≠ X.env.locals := fun z => nfs (by rw [hst]; unfold frs; rw [List.filterMap_cons, hfr, z]; exact List.mem_cons_self)
    have ncell : ∀ x c, X.env.cells.lookup x = some c → c ≠ a := fun x c e z => by
      obtain ⟨v, o, ho, _⟩ := I1.cell x c e
      rw [z, none1] at ho; cases ho
    have npin : ∀ p ∈ z.pn ++ pins, p.1 ≠ a := fun p hp z => by
      have ho := (I1.pin p hp).1
      rw [z, none1] at ho; cases ho
    have IT : Inv (X.wsh z) pins σ1 (L2.upd H' a (excO a C)) { s' with heap := h6 } := Inv.track I6 nH ⟨⟨oe, vs, g1, g2.1, g3⟩, ⟨oe, g1⟩, fun h1 h2 ⟨o, ws, p1, p2, p3⟩ st => ⟨o, ws, st o p1, p2, p3⟩⟩ none0 nloc ncell npin
    have gr : Gr F1 H1 F1 H' := ⟨.refl _, R1.g.trans hS, hS, fun b o e n => by rw [e] at n; cases n⟩
    have gr2 : Gr F1 H1 (L2.upd F1 a (excO a C)) (L2.upd H' a (excO a C)) := gr.trans (Gr.laid (R1.grow gr).g nH)
    have IH : Inv ((X.wsh ⟨fun _ _ => False, z.pn⟩).hand a) pins σ1 (L2.upd H' a (excO a C)) { s' with heap := h6 } := inv_hand (X := X.wsh ⟨fun _ _ => False, z.pn⟩) ⟨ok_wsh IT.ok _, IT.os, IT.bare, IT.base, IT.loc, IT.cell, IT.free, IT.freeC, IT.pin, IT.hok, IT.len⟩ a
    have rp : Rep X.K (L2.upd F1 a (excO a C)) (.exc C) (.ref a) := by
      unfold Rep
      exact ⟨a, rfl, upd_same⟩
    refine store_ok (X := (X.wsh ⟨fun _ _ => False, z.pn⟩).hand a) IH hN hi (.inl hl) (show RelV (.ref a) (.ref a) from rfl) (fun s7 I7 => ?_) (.inr hl)
    have R7 := ((R1.grow gr2).set i rp)
    -- behind the suite the name is let go
    have fin : ∀ {σ2 : St} {H2 : Hp} {s2 : Shared} {Q2 : Shared → Prop}, Inv (X.wsh z) pins σ2 H2 s2 → σ2.length = X.N.length → (∀ s3, Inv (X.wsh z) pins (σ2.set i none) H2 s3 → Q2 s3) → wpAny (model X.prog X.w) X.A (do bindName X.env n .none; unbindBehindTheSuite X.env n hp) (fun _ s3 => Q2 s3) z.xe s2 := by
      intro σ2 H2 s2 Q2 I2 hlen hQ
      refine wpAny_bind (wpAny_bindName (store_ok (X := X.wsh z) I2 hN hi (.inl hl) (show RelV .non Value.none from rfl) (fun s3 I3 => ?_) (.inr hl)))
      unfold unbindBehindTheSuite
      refine wpAny_onRaise (unbind_ok (X := X.wsh z) I3 hN hi hl (v := .non) ?_ fun s4 I4 => ?_)
      · rw [List.getElem?_set_self (by rw [hlen]; exact (List.getElem?_eq_some_iff.mp hi).1)]
      · rw [List.set_set] at I4
        exact hQ s4 I4
    have kb := (k.base R.gr).mono R1.gr.f
    have run := hh a F ⟨fun _ _ => False, z.pn⟩ noX ctx_never pins s7 (σ1.set i (some (.ref a))) (L2.upd H' a (excO a C)) { nx := fun σ H => D.nx (σ.set i none) H, rt := D.rt, bk := fun σ H => D.bk (σ.set i none) H, ct := fun σ H => D.ct (σ.set i none) H } I7
      ⟨_, _, _, R7, hth, ⟨fun Γ' F' H' σ' R' s h => kb.nx _ _ _ _ (R'.drop i none) ((gr2.f).trans s) h, fun Γ' F' H' σ' R' s h => kb.bk _ _ _ _ (R'.drop i none) ((gr2.f).trans s) h, fun Γ' F' H' σ' R' s h => kb.ct _ _ _ _ (R'.drop i none) ((gr2.f).trans s) h, kb.rt, fun _ _ _ _ _ _ q => q.elim, fun _ _ _ _ _ _ _ _ _ q => q.elim⟩⟩
    refine wpAny_mono run (fun f s2 q => ?_) fun _ _ q => q.elim
    have q' := sp_unhand I1.ok q
    cases f with
    | next => obtain ⟨σ', H', I2, q⟩ := q'; exact fin I2 I2.len fun s3 I3 => ⟨_, _, I3, q⟩
    | brk => obtain ⟨σ', H', I2, q⟩ := q'; exact fin I2 I2.len fun s3 I3 => ⟨_, _, I3, q⟩
    | cont => obtain ⟨σ', H', I2, q⟩ := q'; exact fin I2 I2.len fun s3 I3 => ⟨_, _, I3, q⟩
    | ret u => obtain ⟨v, σ', H', I2, r, q⟩ := q'; exact fin I2 I2.len fun s3 I3 => ⟨v, _, _, I3, r, q⟩
end

def sp_law0 : Sp2 := fun ds P _ => ∃ ns : List Int, ds = [.lst (ns.map .int)] ∧ ns.length ≤ 63 ∧ P (.bl true)
theorem reps_ints {K : PySem.W.Frag} {F : Hp} : ∀ ns : List Int, Reps K F (ns.map .int) (ns.map V.int)
  | [] => by unfold Reps; rfl
  | n :: ns => reps_cons (by unfold Rep; rfl) (reps_ints ns)
theorem law_start {K : PySem.W.Frag} {H : Hp} {a : Addr} {ns : List Int} (hl : ns.length ≤ 63) (hS : SqL K H a (ns.map V.int)) : spUp K sp_law0 [.ref a] H (fun v _ => v = .bl true) fun _ _ _ => False :=
  ⟨H, [.lst (ns.map .int)], fun d => d = .bl true, fun _ => False, .refl _, reps_one (by unfold Rep; exact ⟨a, _, rfl, hS, reps_ints ns⟩), ⟨ns, rfl, hl, rfl⟩, fun d v F' H' gr r h => by subst h; unfold Rep at r; exact r, fun _ _ h => h.elim⟩
theorem law_none {P : Program} {w : World} {H : Hp} {s : Shared} {e : Value} {s' : Shared} (h : CX1 P w [] H s (fun _ _ _ => False) e s') : False := by
  obtain ⟨_, _, _, _, _, _, _, _, _, _, _, _, h⟩ := h
  exact h
structure Cls where
  HallError : Addr := 0
  NoFraction : Addr := 0
  NoName : Addr := 0
  NoMark : Addr := 0
  Twice : Addr := 0
  Missing : Addr := 0
  NoAnswer : Addr := 0
  Few : Addr := 0
  Apart : Addr := 0
  NoScale : Addr := 0
  Barred : Addr := 0
  Open : Addr := 0
  NoWork : Addr := 0
  NoSitting : Addr := 0
  NoRow : Addr := 0
  Scale : Addr := 0
  Book : Addr := 0
  Sitting : Addr := 0
  Desk : Addr := 0
end L3

namespace L3
open PySem PySem.Spec PyProof.Rows L2

structure ExcG (K : PySem.W.Frag) (C : Addr) : Prop where
  ga : PySem.W.findIn K (.ref C) "__getattribute__" = some (some (.builtin "BaseException.__getattribute__"))
  gn : PySem.W.findIn K (.ref C) "__getattr__" = some none
  cl : PySem.W.findIn K (.ref C) "__class__" = some (some (.builtin "object.__class__"))
  ob : PySem.W.mroIn K C (.type "object") = some true
  be : PySem.W.mroIn K C (.type "BaseException") = some true

def cIsx (K : PySem.W.Frag) (C : Addr) (ta : TE2) : TE2 := fun Γ P E => ta Γ (fun d Γ1 => match d with | .exc C0 => (ExcK K C0 ∧ ExcG K C0) ∧ P (.bl (excSub K C0 C)) Γ1 | _ => False) E
section
open PySem.W PySem.Builtin PySem.Builtin.ObjectAttr PySem.Builtin.Getset_descriptor
variable {prog : Program} {w : World} {A : Around} {E : Value → Shared → Prop} {K : PySem.W.Frag} {h : Heap} {g : Array GenState} {d : Drawn} {t : Nat} {os : OsState} {a C : Addr} {o : Obj}
theorem exc_cls_get {tp : Value} {R : Result → Shared → Prop} (X : K.In h) (G : ExcG K C) (hx : h.get? a = some o) (hc : o.cls = .ref C) (hq : R (.ok (.ret (.ref C))) ⟨h, g, d, t, os⟩) :
    codeAny (model prog w) A (.call (.builtin "getset_descriptor.__get__") ⟨[.builtin "object.__class__", .ref a, tp], []⟩) R ⟨h, g, d, t, os⟩ := by
  have L0 : Looks (model prog w) h (typeOf (.ref a)) (.ref C) := hc ▸ (Looks.ld hx).andThen .now
  have L1 := looks_mroIn (M := model prog w) X G.ob
  refine codeAny_call_builtin KF.slot_gs.plain KF.entry_gs (KF.slot_gs.check _ _ _ _ _ _ _ _ KF.type_class (KF.args_gs _ _ _) ?_)
  unfold Builtin.«getset_descriptor.__get__» descrGet
  rw [dga_obj]
  refine wpAny_bind (wpAny_pure ?_)
  unfold descrGetter descrCheckInstance descrNameAndClass isInstance
  simp only [KF.owner_class]
  repeat lk
  refine ⟨Code.quiet_builtin _ (by decide +kernel), codeAny_builtin KF.entry_class ?_⟩
  unfold Builtin.«object.__class__» shownTypeOf
  repeat lk
  exact hq
theorem exc_cls_entry {tk : Tok} {Q : Fin → Shared → Prop} (X : K.In h) (G : ExcG K C) (hx : h.get? a = some o) (hc : o.cls = .ref C) (hq : Q (.done (.ret (.ref C))) ⟨h, g, d, t, os⟩) :
    wpAny (model prog w) A (Builtin.«object.__getattribute__» ⟨[.ref a, .str "__class__" tk], []⟩) Q E ⟨h, g, d, t, os⟩ := by
  have L0 : Looks (model prog w) h (typeOf (.ref a)) (.ref C) := hc ▸ (Looks.ld hx).andThen .now
  have L1 := looks_findIn (M := model prog w) X G.cl
  have f5 := KF.type_class
  have f6 := F.slot_gs_get.lookup
  have f7 := F.slot_gs_set.lookup
  have hT5 : (⟨h, g, d, t, os⟩ : Shared).TypeIs (.builtin "object.__class__") "getset_descriptor" := KF.type_class
  repeat (any_goals (first | assumption | (with_reducible refine wpAny_loadPart_at hx ?_; rw [hc]) | with_reducible refine L1.at ?_ | wp_step))
  refine exc_cls_get X G hx hc ?_
  repeat (any_goals (first | assumption | wp_step))
theorem exc_cls_check {M : Model} {nameV : Value} {Q : Unit → Shared → Prop} (X : K.In h) (G : ExcG K C) (hx : h.get? a = some o) (hc : o.cls = .ref C) (hq : Q () ⟨h, g, d, t, os⟩) : wpAny M A (checkBuiltinCall "BaseException.__getattribute__" ⟨[.ref a, nameV], []⟩) Q E ⟨h, g, d, t, os⟩ := by
  have hk : builtinKind "BaseException.__getattribute__" = some .slot := by decide +kernel
  have hsp : splitId "BaseException.__getattribute__" = some ("BaseException", "__getattribute__") := by decide +kernel
  have ha := F.args_bexc_ga (.ref a) nameV
  have L1 := looks_mroIn (M := M) X G.be
  simp only [checkBuiltinCall, hk, hsp]
  refine wpAny_bind ?_
  unfold isInstance
  repeat (first | (with_reducible refine wpAny_loadPart_at hx ?_; rw [hc]) | with_reducible refine L1.at ?_ | wp_step)
  exact hq
theorem exc_class {Q : Option Value → Shared → Prop} (X : K.In h) (G : ExcG K C) (hx : h.get? a = some o) (hc : o.cls = .ref C) (hq : Q (some (.ref C)) ⟨h, g, d, t + 1, os⟩) : wpAny (model prog w) A (getAttr? (.ref a) "__class__") Q E ⟨h, g, d, t, os⟩ := by
  have L0 : Looks (model prog w) h (typeOf (.ref a)) (.ref C) := hc ▸ (Looks.ld hx).andThen .now
  have L1 := looks_findIn (M := model prog w) X G.ga
  have L2' := looks_findIn (M := model prog w) X G.gn
  have b3 := PySem.F.excAttr_ValueError.ga.bind (.ref a)
  unfold getAttr? getAttrBy? getAttrBy
  refine wpAny_bind (wpAny_mkText (wpAny_bind (wpAny_attempt (wpAny_holding (wpAny_bind (L0.at (wpAny_bind (L1.at ?_))))))))
  have hx2 : (onTheHeap (Value.ref C) && Value.builtin "BaseException.__getattribute__" == Value.builtin "object.__getattribute__") = false := by
    rw [show (Value.builtin "BaseException.__getattribute__" == Value.builtin "object.__getattribute__") = false by decide +kernel, Bool.and_false]
  simp only [hx2, Bool.false_eq_true, if_false]
  unfold getAttrByItsOwn hookBefore callGetattribute
  simp only [show onTheHeap (Value.ref C) = true from rfl, if_true]
  refine wpAny_bind (L2'.at ?_)
  simp only [Bool.false_and, Bool.false_eq_true, if_false]
  unfold boundAndCalled
  refine wpAny_bind (wpAny_attempt (wpAny_holding (wpAny_bind (wpAny_of_eq b3 ?_))))
  refine wpAny_call (codeAny_call_builtin PySem.F.excAttr_ValueError.ga.plain F.entry_bexc_ga (exc_cls_check X G hx hc (exc_cls_entry X G hx hc ?_)))
  exact handed_on rfl (wpAny_pure hq)
theorem kitx_exc (q : ExcK K C) (G : ExcG K C) : KitX K (.ref a) (.ref C) (fun h => ∃ o, h.get? a = some o ∧ o.cls = .ref C) where
  ty := fun M h _ ⟨o, e, c⟩ => c ▸ (Looks.ld e).andThen .now
  it := fun M h X _ => by
    obtain ⟨bm, N, nm, qn, bs, hdct, sn, sub, ab, col, dd, k0, k1, k2, k3, k5, e1, _⟩ := excB_obj X q
    intro A' Q' E' s' k hq
    unfold isType loadHead
    exact wpAny_bind (wpAny_loadPart (k _ _ e1) (wpAny_pure hq))
  ne := fun h tp dd its n sl X htp => by
    obtain ⟨bm, N, nm, qn, bs, hdct, sn, sub, ab, col, dd, k0, k1, k2, k3, k5, e1, _⟩ := excB_obj X q
    refine Bool.eq_false_iff.mpr fun z => ?_
    have e : C = tp := Value.ref.inj (beq_iff_eq.mp z)
    subst e
    rw [e1] at htp
    unfold excClassObj at htp
    injection htp with htp
    have z2 := congrArg Obj.cls htp
    injection z2 with z2
    exact absurd z2 (by decide)
  ca := fun {prog w A E Q s} X ⟨o, e, c⟩ hq => by
    obtain ⟨h, g, d, t, os⟩ := s
    exact exc_class X G e c hq
def clsB (K : PySem.W.Frag) (C : Addr) : Bool := match K.lookup C with
  | some ⟨.type "type", _, .cls cd, _⟩ => (match cd.mro with | .ref C' :: _ => C' == C | _ => false)
  | _ => false
theorem clsB_look {B : Addr} (hB : clsB K B = true) : ∃ dd cd sl bm, K.lookup B = some ⟨.type "type", dd, .cls cd, sl⟩ ∧ cd.mro = .ref B :: bm := by
  unfold clsB at hB
  split at hB
  · rename_i dd cd sl ho
    split at hB
    · rename_i C' bm hm
      obtain rfl : C' = B := by simpa using hB
      exact ⟨dd, cd, sl, bm, ho, hm⟩
    · cases hB
  · cases hB
theorem clsB_exc {B : Addr} (hB : ExcC K B) : clsB K B = true := by
  unfold ExcC excIn at hB
  split at hB
  · rename_i dd cd sl ho
    split at hB
    · rename_i C' bm k0 k1 k2 k3 n k5 hm hs
      simp only [Bool.and_eq_true, beq_iff_eq] at hB
      obtain ⟨⟨⟨⟨⟨rfl, _⟩, _⟩, _⟩, _⟩, _⟩ := hB
      unfold clsB
      rw [ho]
      simp only [hm]
      exact beq_self_eq_true _
    · cases hB
  · cases hB
theorem clsB_excK {B : Addr} (hB : ExcK K B) : clsB K B = true := by
  unfold ExcK excB at hB
  split at hB
  · rename_i dd cd sl ho
    split at hB
    · rename_i C' bm k0 k1 k2 k3 n k5 hm hs
      simp only [Bool.and_eq_true, beq_iff_eq] at hB
      obtain ⟨⟨⟨rfl, _⟩, _⟩, _⟩ := hB
      unfold clsB
      rw [ho]
      simp only [hm]
      exact beq_self_eq_true _
    · cases hB
  · cases hB
theorem kit_exc {D : Addr} (q : ExcK K C) (qd : clsB K D = true) : kitOne K (.ref C) (.ref D) = some (excSub K C D) := by
  obtain ⟨dd, cd, sl, bm, e1, e2⟩ := clsB_look (clsB_excK q)
  obtain ⟨dd', cd', sl', bm', e3, e4⟩ := clsB_look qd
  have es : excSub K C D = cd.mro.contains (.ref D) := by unfold excSub; rw [e1]
  unfold kitOne
  by_cases h : C = D
  · subst h
    rw [if_pos (by simp), es, e2]
    simp
  · rw [if_neg (by simpa using h)]
    unfold kitCls
    have c1 : clsIn K D = some cd' := by unfold clsIn; rw [e3]
    have c2 : typeIn K (.ref D) = some (.type "type") := by show (K.lookup D).map (fun x => x.cls) = _; rw [e3]; rfl
    have c3 : clsIn K C = some cd := by unfold clsIn; rw [e1]
    simp only [c1, c2, Option.isSome_some, Bool.true_and, beq_self_eq_true, if_true]
    show ((clsIn K C).bind fun cd => if cd.mro.isEmpty = true then none else some (cd.mro.contains (Value.ref D))) = _
    rw [c3, es]
    simp only [Option.bind_some]
    rw [e2]
    simp
end
section
variable {X : Cx} {F0 H0 : Hp} {a : Expr} {pos p pt : Pos} {ta : TE2} {x : Str} {C : Addr}
theorem qe_isx (ha : QE X F0 H0 a ta) (hg : Gl X "isinstance") (hm : X.mg "isinstance" = none) (hgT : Gl X x) (hT : X.mg x = some (.ref C) ∧ clsB X.K C = true) (hd : (x == ("__debug__" : Str)) = false := by decide)
    (he : starEach [a, .Name x pt] X.env = (false, eval a X.env) :: starEach [.Name x pt] X.env := by rfl) (he2 : starEach [.Name x pt] X.env = [(false, eval (.Name x pt) X.env)] := by rfl) : QE X F0 H0 (.Call (.Name "isinstance" p) [a, .Name x pt] [] pos) (cIsx X.K C ta) := fun z E cx => by
  have pT : PE (X.wsh z) (.Name x pt) (tC (.ref C)) := pe_glob (X := X.wsh z) hgT hT.1 rfl hd
  refine peC (pe_callB (X := X.wsh z) (id := "isinstance") (r := fun vs H Q => ∃ (F : Hp) (C0 : Addr) (x : V) (P : Bool → Prop), vs = [x, .ref C] ∧ Same F H ∧ Rep X.K F (.exc C0) x ∧ (ExcK X.K C0 ∧ ExcG X.K C0) ∧ P (excSub X.K C0 C) ∧ ∀ b, P b → Q (.bl b) H) ?_ hg hm boot_isinstance (pa_cons (ha z E cx) (pa_cons pT pa_nil (by rw [he2]; rfl)) he) (by decide) (by decide) he (by rw [he2]; rfl)) fun σ H Q ⟨F, Γ, P, R, h, k⟩ => ?_
  · intro pins s σ H xs us Q I r ⟨F, C0, y, P, e1, sF, rd, hx, hb, k⟩
    subst e1
    obtain ⟨u, w, rfl, ru, rw'⟩ := vals2 r
    obtain rfl : w = Value.ref C := rw'
    unfold Rep at rd
    obtain ⟨b, rfl, eb⟩ := rd
    cases ru
    obtain ⟨⟨o, vs, g1, g2, _⟩, _⟩ := I.hok b _ (sF _ _ eb)
    exact PySem.W.kia_one (kitx_exc hx.1 hx.2) I.kIn ⟨o, g1, g2⟩ (kit_exc hx.1 hT.2) (fun z => nomatch z) fun tk => ⟨.bl _, H, I.tok tk, rfl, k _ hb⟩
  · refine ⟨F, Γ, _, R, h, fun d Γ1 F1 H1 v R1 s1 r1 h1 => ?_⟩
    cases d with
    | exc C0 => exact ⟨F1, C0, v, fun b => P (.bl b) Γ1, rfl, R1.g, r1, h1.1, h1.2, fun b hp => k _ _ _ _ _ R1 s1 (by unfold Rep; rfl) hp⟩
    | _ => exact False.elim h1
end
end L3

namespace L3
open PySem PySem.Spec PyProof.Rows L2

theorem cf_old {x : Str} : ∀ (names : List (Str × NameKind)) (n : Nat) (acc : List (Str × Addr)), (∀ p ∈ names, p.2 = .cell → p.1 ≠ x) → (cellsFrom n names acc).lookup x = acc.lookup x
  | [], _, _, _ => rfl
  | (y, k) :: r, n, acc, h => by
    unfold cellsFrom
    have hr : ∀ p ∈ r, p.2 = .cell → p.1 ≠ x := fun p hp => h p (List.mem_cons_of_mem _ hp)
    split
    · rename_i hk
      have hy : y ≠ x := h (y, k) List.mem_cons_self (by simpa using hk)
      rw [cf_old r _ _ hr, List.lookup_cons]
      have : (x == y) = false := by rw [beq_eq_false_iff_ne]; exact Ne.symm hy
      rw [this]
    · exact cf_old r _ _ hr
theorem cf_mem {x : Str} {c : Addr} : ∀ (names : List (Str × NameKind)) (h : Heap) (acc : List (Str × Addr)), (x, c) ∈ cellsFrom h.objs.size names acc → (x, c) ∈ acc ∨ (h.objs.size ≤ c ∧ (pushCells h names).IsCell c none ∧ (x, NameKind.cell) ∈ names)
  | [], _, _, m => .inl m
  | (y, k) :: r, h, acc, m => by
    unfold cellsFrom at m
    unfold pushCells
    split at m
    · rename_i hk
      rw [if_pos hk]
      have sz : (h.push { cls := .type "cell", data := .cell none }).objs.size = h.objs.size + 1 := Heap.size_push ..
      rw [← sz] at m
      rcases cf_mem r _ _ m with z | ⟨z1, z2, z3⟩
      · rcases List.mem_cons.mp z with e | z
        · cases e
          have e2 : k = .cell := by simpa using hk
          subst e2
          refine .inr ⟨Nat.le_refl _, ?_, List.mem_cons_self⟩
          exact ⟨_, pushCells_keeps r _ _ _ (Heap.get?_push_size _ rfl), rfl⟩
        · exact .inl z
      · exact .inr ⟨by rw [sz] at z1; omega, z2, List.mem_cons_of_mem _ z3⟩
    · rename_i hk
      rw [if_neg hk]
      rcases cf_mem r h acc m with z | ⟨z1, z2, z3⟩
      · exact .inl z
      · exact .inr ⟨z1, z2, List.mem_cons_of_mem _ z3⟩
theorem cf_apart : ∀ (names : List (Str × NameKind)) (n : Nat) (acc : List (Str × Addr)), (acc.Pairwise fun x y => x.2 ≠ y.2) → (∀ p ∈ acc, p.2 < n) → (cellsFrom n names acc).Pairwise fun x y => x.2 ≠ y.2
  | [], _, _, h, _ => h
  | (y, k) :: r, n, acc, h, hl => by
    unfold cellsFrom
    split
    · refine cf_apart r _ _ (List.pairwise_cons.mpr ⟨fun p hp e => ?_, h⟩) fun p hp => ?_
      · have e' : n = p.2 := e
        exact Nat.lt_irrefl _ (Nat.lt_of_lt_of_eq (hl p hp) e')
      · rcases List.mem_cons.mp hp with rfl | hp
        · exact Nat.lt_succ_self _
        · exact Nat.lt_succ_of_lt (hl p hp)
    · exact cf_apart r n acc h hl
def clOf (env : Env) : List (Str × NameKind) → List (Str × Addr) → List (Str × Addr)
  | [], cs => cs
  | (n, k) :: r, cs => clOf env r (if k == .free then (n, (env.cells.lookup n).getD 0) :: cs else cs)
theorem clos_ok {scope : Scope} {env : Env} (h : ∀ p ∈ scope.names, p.2 = .free → ∃ c, env.cells.lookup p.1 = some c) : closureFor scope env = pure (clOf env scope.names []) := by
  have key : ∀ (names : List (Str × NameKind)) (cs : List (Str × Addr)), (∀ p ∈ names, p.2 = .free → ∃ c, env.cells.lookup p.1 = some c) →
      (forIn names cs fun (x : Str × NameKind) (r : List (Str × Addr)) => (if x.2 == .free then do let a ← cellOf env x.1; pure (ForInStep.yield ((x.1, a) :: r)) else pure (ForInStep.yield r) : Sem _)) = pure (clOf env names cs) := by
    intro names
    induction names with
    | nil => intro cs _; rfl
    | cons p r ih =>
      intro cs hh
      obtain ⟨n, k⟩ := p
      have hr : ∀ p ∈ r, p.2 = .free → ∃ c, env.cells.lookup p.1 = some c := fun p hp => hh p (List.mem_cons_of_mem _ hp)
      rw [List.forIn_cons]
      unfold clOf
      by_cases hk : (k == NameKind.free) = true
      · obtain ⟨c, e⟩ := hh (n, k) List.mem_cons_self (by simpa using hk)
        have e' : cellOf env n = pure c := by unfold cellOf; rw [e]
        simp only [hk, if_true, e', pure_bind, e, Option.getD_some]
        exact ih _ hr
      · have hk' : (k == NameKind.free) = false := by simpa using hk
        simp only [hk', Bool.false_eq_true, if_false, pure_bind]
        exact ih _ hr
  unfold closureFor
  have := key scope.names [] h
  simpa using this
theorem clOf_mem {env : Env} {x : Str} {c : Addr} : ∀ (names : List (Str × NameKind)) (cs : List (Str × Addr)), (∀ p ∈ names, p.2 = .free → ∃ c, env.cells.lookup p.1 = some c) → (x, c) ∈ clOf env names cs → (x, c) ∈ cs ∨ ((x, NameKind.free) ∈ names ∧ env.cells.lookup x = some c)
  | [], _, _, m => .inl m
  | (n, k) :: r, cs, hh, m => by
    unfold clOf at m
    have hr : ∀ p ∈ r, p.2 = .free → ∃ c, env.cells.lookup p.1 = some c := fun p hp => hh p (List.mem_cons_of_mem _ hp)
    rcases clOf_mem r _ hr m with z | ⟨z1, z2⟩
    · split at z
      · rename_i hk
        rcases List.mem_cons.mp z with e | z
        · cases e
          have e2 : k = .free := by simpa using hk
          subst e2
          obtain ⟨c, e⟩ := hh (_, .free) List.mem_cons_self rfl
          refine .inr ⟨List.mem_cons_self, ?_⟩
          have e' : env.cells.lookup x = some c := e
          rw [e']; rfl
        · exact .inl z
      · exact .inl z
    · exact .inr ⟨List.mem_cons_of_mem _ z1, z2⟩
theorem clOf_get {env : Env} {x : Str} {c : Addr} (e : env.cells.lookup x = some c) : ∀ (names : List (Str × NameKind)) (cs : List (Str × Addr)), ((x, NameKind.free) ∈ names ∨ cs.lookup x = some c) → (∀ c', cs.lookup x = some c' → c' = c) → (clOf env names cs).lookup x = some c
  | [], cs, h, _ => by
    rcases h with h | h
    · cases h
    · exact h
  | (n, k) :: r, cs, h, hu => by
    unfold clOf
    by_cases hk : (k == NameKind.free) = true
    · rw [if_pos hk]
      by_cases hn : x = n
      · subst hn
        refine clOf_get e r _ (.inr ?_) fun c' q => ?_
        · rw [List.lookup_cons]; simp [e]
        · rw [List.lookup_cons] at q; simp [e] at q; exact q.symm
      · have hb : (x == n) = false := by rw [beq_eq_false_iff_ne]; exact hn
        refine clOf_get e r _ ?_ fun c' q => ?_
        · rcases h with h | h
          · rcases List.mem_cons.mp h with z | z
            · cases z; exact absurd rfl hn
            · exact .inl z
          · refine .inr ?_
            rw [List.lookup_cons, hb]; exact h
        · rw [List.lookup_cons, hb] at q; exact hu c' q
    · rw [if_neg hk]
      refine clOf_get e r cs ?_ hu
      rcases h with h | h
      · rcases List.mem_cons.mp h with z | z
        · cases z; exact absurd rfl hk
        · exact .inl z
      · exact .inr h
theorem clOf_apart {env : Env} (inj : ∀ x y c, env.cells.lookup x = some c → env.cells.lookup y = some c → x = y) : ∀ (names : List (Str × NameKind)) (cs : List (Str × Addr)), (names.map (·.1)).Nodup → (∀ p ∈ names, p.2 = .free → ∃ c, env.cells.lookup p.1 = some c) →
    (cs.Pairwise fun x y => x.2 ≠ y.2) → (∀ p ∈ cs, env.cells.lookup p.1 = some p.2 ∧ p.1 ∉ names.map (·.1)) → (clOf env names cs).Pairwise fun x y => x.2 ≠ y.2
  | [], _, _, _, h, _ => h
  | (n, k) :: r, cs, nd, hh, h, hc => by
    unfold clOf
    rw [List.map_cons, List.nodup_cons] at nd
    have hr : ∀ p ∈ r, p.2 = .free → ∃ c, env.cells.lookup p.1 = some c := fun p hp => hh p (List.mem_cons_of_mem _ hp)
    have hc' : ∀ p ∈ cs, env.cells.lookup p.1 = some p.2 ∧ p.1 ∉ r.map (·.1) := fun p hp => ⟨(hc p hp).1, fun z => (hc p hp).2 (by rw [List.map_cons]; exact List.mem_cons_of_mem _ z)⟩
    by_cases hk : (k == NameKind.free) = true
    · rw [if_pos hk]
      obtain ⟨c, e⟩ := hh (n, k) List.mem_cons_self (by simpa using hk)
      have e' : env.cells.lookup n = some c := e
      rw [e']
      refine clOf_apart inj r _ nd.2 hr (List.pairwise_cons.mpr ⟨fun p hp z => ?_, h⟩) fun p hp => ?_
      · have z' : c = p.2 := z
        have q := (hc p hp).1
        rw [← z'] at q
        have := inj _ _ _ e' q
        exact (hc p hp).2 (by rw [List.map_cons, ← this]; exact List.mem_cons_self)
      · rcases List.mem_cons.mp hp with rfl | hp
        · exact ⟨e', nd.1⟩
        · exact hc' p hp
    · rw [if_neg hk]
      exact clOf_apart inj r cs nd.2 hr h hc'
theorem relabel_look {scope : Scope} {env : Env} {x : Str} : ∀ (names : List (Str × NameKind)) {k : NameKind}, names.lookup x = some k → (names.map fun (n, k) => if (k == NameKind.free && env.scope.kind == .function && env.kindOf n == some .cell) then (n, NameKind.cell) else (n, k)).lookup x = some k ∨
      (k = .free ∧ (names.map fun (n, k) => if (k == NameKind.free && env.scope.kind == .function && env.kindOf n == some .cell) then (n, NameKind.cell) else (n, k)).lookup x = some .cell)
  | [], _, h => by simp at h
  | (n, k0) :: r, k, h => by
    have ih := @relabel_look scope env x r k
    show List.lookup x ((if (k0 == NameKind.free && env.scope.kind == .function && env.kindOf n == some .cell) = true then (n, NameKind.cell) else (n, k0)) :: _) = _ ∨ (_ ∧ List.lookup x ((if (k0 == NameKind.free && env.scope.kind == .function && env.kindOf n == some .cell) = true then (n, NameKind.cell) else (n, k0)) :: _) = _)
    cases hx : x == n with
    | true =>
      simp only [List.lookup_cons, hx] at h
      cases h
      by_cases hc : (k0 == NameKind.free && env.scope.kind == .function && env.kindOf n == some .cell) = true
      · rw [if_pos hc]
        simp only [Bool.and_eq_true] at hc
        exact .inr ⟨by simpa using hc.1.1, by simp only [List.lookup_cons, hx]⟩
      · rw [if_neg hc]
        exact .inl (by simp only [List.lookup_cons, hx])
    | false =>
      simp only [List.lookup_cons, hx] at h
      by_cases hc : (k0 == NameKind.free && env.scope.kind == .function && env.kindOf n == some .cell) = true
      · rw [if_pos hc]; simp only [List.lookup_cons, hx]; exact ih h
      · rw [if_neg hc]; simp only [List.lookup_cons, hx]; exact ih h
end L3

namespace L3
open PySem PySem.Spec PyProof.Rows L2

def blkEnv (scope : Scope) (C : Addr) (env : Env) : Env :=
  { scope := relabel scope env, locals := C, globals := env.globals, cells := cellsFrom (C + 1) scope.names (clOf env scope.names []), qual := env.qual, func := none, code := env.code, frame := env.frame, builtins := env.builtins }
def blk (X : Cx) (scope : Scope) (N : List Str) (C : Addr) (s₀ : Shared) (H₀ : Hp) (fp : List Addr) : Cx :=
  { X with env := blkEnv scope C X.env, N := N, s₀ := s₀, H₀ := H₀, outer := X.stack, stack := X.stack, ex := fp, fn := fun x => scope.names.lookup x == some .cell, pn := [], xe := fun _ _ => False }
def mkσ (own : Nat) (caps : List Nat) (σ : St) : St := List.replicate own none ++ caps.map fun j => (σ[j]?).join
structure CpScope (N : List Str) (sc : Scope) (own : List Str) (caps : List Nat) (env : Env) (N' : List Str) : Prop where
  kind : sc.kind = .function
  nd : N'.Nodup
  snd : (sc.names.map (·.1)).Nodup
  free : ∀ p ∈ sc.names, p.2 = .free → env.kindOf p.1 = some .cell ∨ env.kindOf p.1 = some .free
  names : N' = own ++ caps.map fun j => N.getD j ""
  caps : ∀ j ∈ caps, j < N.length ∧ sc.names.lookup (N.getD j "") = some .free

theorem new_block {M : Model} {A : Around} {E : Value → Shared → Prop} {s : Shared} {scope : Scope} {g : Addr} {cl : List (Str × Addr)} {q : Str} {env : Env} {Q : Env → Shared → Prop} 
    (hQ : Q (newEnv scope s.heap.objs.size g (cellsFrom (s.heap.objs.size + 1) scope.names cl) q none .none (some env) builtinsNs) { s with heap := pushCells (s.heap.push { cls := .type "dict", data := .dict #[] }) scope.names }) :
    wpAny M A (newFunctionEnv scope g cl [] q none .none (some env)) Q E s := by
  simp only [newFunctionEnv, Option.isSome_some, if_true]
  refine wpAny_bind (wpAny_alloc ?_)
  refine wpAny_bind (wpAny_layCells _ (fun name kind cells => by cases hkc : kind == NameKind.cell <;> simp [hkc]) _ _ _ _ ?_)
  rw [show ({ s with heap := s.heap.push { cls := .type "dict", data := .dict #[] } } : Shared).heap.objs.size = s.heap.objs.size + 1 from Heap.size_push ..]
  simp only [List.forIn_nil]
  exact wpAny_bind (wpAny_pure (wpAny_pure hQ))

section
variable {X : Cx} {pins : List (Addr × Obj)} {σ : St} {H : Hp} {s : Shared} {sc : Scope} {own : List Str} {caps : List Nat} {N' : List Str} {fp : List Addr}
theorem free_has (I : Inv X pins σ H s) (S : CpScope X.N sc own caps X.env N') : ∀ p ∈ sc.names, p.2 = .free → ∃ c, X.env.cells.lookup p.1 = some c := fun p hp hk => I.ok.has _ (S.free p hp hk)
theorem blk_cells (I : Inv X pins σ H s) (S : CpScope X.N sc own caps X.env N') {x : Str} {c : Addr} (e : (blkEnv sc s.heap.objs.size X.env).cells.lookup x = some c) :
    (X.env.cells.lookup x = some c ∧ c < s.heap.objs.size ∧ sc.names.lookup x ≠ some .cell) ∨ (s.heap.objs.size + 1 ≤ c ∧ (pushCells (s.heap.push { cls := .type "dict", data := .dict #[] }) sc.names).IsCell c none) := by
  have m := mem_of_lookup e
  have sz : (s.heap.push { cls := .type "dict", data := .dict #[] }).objs.size = s.heap.objs.size + 1 := Heap.size_push ..
  have m' : (x, c) ∈ cellsFrom (s.heap.push { cls := .type "dict", data := .dict #[] }).objs.size sc.names (clOf X.env sc.names []) := by rw [sz]; exact m
  rcases cf_mem sc.names _ _ m' with z | ⟨z1, z2, z3⟩
  · rcases clOf_mem sc.names [] (free_has I S) z with z | ⟨z1, z2⟩
    · cases z
    · obtain ⟨v, hc⟩ := I.cell x c z2
      refine .inl ⟨z2, hc.lt, fun q => ?_⟩
      have q' := mem_of_lookup q
      have := S.snd
      rw [List.Nodup, List.pairwise_map] at this
      have d : ∀ (l : List (Str × NameKind)), (l.Pairwise fun a b => a.1 ≠ b.1) → (x, NameKind.free) ∈ l → (x, NameKind.cell) ∈ l → False := by
        intro l
        induction l with
        | nil => intro _ h; cases h
        | cons a r ih =>
          intro hp h1 h2
          obtain ⟨p1, p2⟩ := List.pairwise_cons.mp hp
          rcases List.mem_cons.mp h1 with e1 | h1 <;> rcases List.mem_cons.mp h2 with e2 | h2
          · rw [← e1] at e2; cases e2
          · exact p1 _ h2 (by rw [← e1])
          · exact p1 _ h1 (by rw [← e2])
          · exact ih p2 h1 h2
      exact d _ this z1 q'
  · exact .inr ⟨by rw [sz] at z1; exact z1, z2⟩
theorem blk_cap (I : Inv X pins σ H s) (S : CpScope X.N sc own caps X.env N') {x : Str} {c : Addr} (hk : sc.names.lookup x = some .free) (e : X.env.cells.lookup x = some c) : (blkEnv sc s.heap.objs.size X.env).cells.lookup x = some c := by
  show (cellsFrom _ sc.names (clOf X.env sc.names [])).lookup x = some c
  rw [cf_old]
  · exact clOf_get e _ _ (.inl (mem_of_lookup hk)) fun c' q => by cases q
  · intro p hp hc z
    have q := mem_of_lookup hk
    have := S.snd
    rw [List.Nodup, List.pairwise_map] at this
    have d : ∀ (l : List (Str × NameKind)), (l.Pairwise fun a b => a.1 ≠ b.1) → (x, NameKind.free) ∈ l → p ∈ l → False := by
      intro l
      induction l with
      | nil => intro _ h; cases h
      | cons a r ih =>
        intro hpw h1 h2
        obtain ⟨p1, p2⟩ := List.pairwise_cons.mp hpw
        rcases List.mem_cons.mp h1 with e1 | h1 <;> rcases List.mem_cons.mp h2 with e2 | h2
        · rw [← e1] at e2; subst e2; cases hc
        · exact p1 _ h2 (by rw [← e1]; exact z.symm)
        · exact p1 _ h1 (by rw [← e2]; exact z)
        · exact ih p2 h1 h2
    exact d _ this q hp
theorem blk_look (I : Inv X pins σ H s) (S : CpScope X.N sc own caps X.env N') {h' : Heap} (keepc : ∀ x c v, X.env.cells.lookup x = some c → s.heap.IsCell c v → h'.IsCell c v) {m' : Str → Option Value} (i : Nat) (x : Str) (v : V) (h1 : N'[i]? = some x) (h2 : (mkσ own.length caps σ)[i]? = some (some v)) :
    ∃ u, RelV v u ∧ Look (blkEnv sc s.heap.objs.size X.env) h' m' x u := by
  have h2' : (mkσ own.length caps σ)[i]? = some (some v) := h2
  have h1' : N'[i]? = some x := h1
  unfold mkσ at h2'
  rw [S.names] at h1'
  by_cases hi : i < own.length
  · rw [List.getElem?_append_left (by simpa using hi), List.getElem?_replicate] at h2'
    split at h2' <;> cases h2'
  · rw [List.getElem?_append_right (by simpa using hi), List.getElem?_map, List.length_replicate] at h2'
    rw [List.getElem?_append_right (by omega), List.getElem?_map] at h1'
    cases hj : caps[i - own.length]? with
    | none => rw [hj] at h1'; cases h1'
    | some j =>
      rw [hj] at h1' h2'
      obtain ⟨j1, j2⟩ := S.caps j (List.mem_of_getElem? hj)
      have hx : X.N.getD j "" = x := by simpa using h1'
      have hσ : σ[j]? = some (some v) := by
        have : (σ[j]?).join = some v := by simpa using h2'
        cases q : σ[j]? with
        | none => rw [q] at this; cases this
        | some o => rw [q] at this; have : o = some v := this; rw [this]
      rw [hx] at j2
      have hN : X.N[j]? = some x := by
        rw [List.getD_eq_getElem?_getD, List.getElem?_eq_getElem j1] at hx
        rw [List.getElem?_eq_getElem j1]
        simpa using hx
      obtain ⟨m, hn, hloc⟩ := I.loc
      have kx := S.free (x, .free) (mem_of_lookup j2) rfl
      have vis : Vis X.env.scope x := by
        rcases kx with k | k
        · exact .inr (.inl k)
        · exact .inr (.inr k)
      obtain ⟨u, ru, l⟩ := hloc j x v hN hσ vis
      refine ⟨u, ru, .inr ⟨?_, ?_⟩⟩
      · rcases relabel_look (scope := sc) (env := X.env) sc.names j2 with h | ⟨_, h⟩
        · exact .inr h
        · exact .inl h
      · rcases l with ⟨k, _⟩ | ⟨_, c, ec, hc⟩
        · have k' : X.env.kindOf x = some .local := k
          have kx' : X.env.kindOf x = some .cell ∨ X.env.kindOf x = some .free := kx
          rw [k'] at kx'
          rcases kx' with z | z <;> cases z
        · exact ⟨c, blk_cap I S j2 ec, keepc x c _ ec hc⟩
theorem inv_block (I : Inv X pins σ H s) (S : CpScope X.N sc own caps X.env N') (hf : ∀ b ∈ fp, FpOk X pins H b) (hl : ∀ b ∈ fp, b < s.heap.objs.size) :
    Inv (blk X sc N' s.heap.objs.size s H fp) [] (mkσ own.length caps σ) H { s with heap := pushCells (s.heap.push { cls := .type "dict", data := .dict #[] }) sc.names } := by
  have keep : ∀ b o, s.heap.get? b = some o → (pushCells (s.heap.push { cls := .type "dict", data := .dict #[] }) sc.names).get? b = some o := fun b o e => pushCells_keeps _ _ b o (Heap.get?_push_of_some _ e)
  have ok := I.ok
  have inj : ∀ x y c, (blkEnv sc s.heap.objs.size X.env).cells.lookup x = some c → (blkEnv sc s.heap.objs.size X.env).cells.lookup y = some c → x = y := fun x y c e1 e2 => by
    refine name_of_addr (cs := (blkEnv sc s.heap.objs.size X.env).cells) ?_ (mem_of_lookup e1) (mem_of_lookup e2)
    refine cf_apart _ _ _ (clOf_apart ok.inj _ _ S.snd (free_has I S) List.Pairwise.nil (fun p hp => by cases hp)) fun p hp => ?_
    rcases clOf_mem (x := p.1) (c := p.2) sc.names [] (free_has I S) hp with z | ⟨_, z⟩
    · cases z
    · obtain ⟨v, hc⟩ := I.cell _ _ z
      exact Nat.lt_succ_of_lt hc.lt
  have frC : ∀ b, s.heap.objs.size ≤ b → H b = none := fun b hb => I.hok.fresh hb
  have kfun : (blkEnv sc s.heap.objs.size X.env).scope.kind = .function := S.kind
  refine ⟨⟨ok.mod, kfun, ok.glob, ok.blt, Nat.le_refl _, inj, fun x hx => ?_, fun x c hfn e => ?_, ok.hd, ok.frames, .inl rfl, fun b hb => ⟨Nat.ne_of_lt (hl b hb), fun x c e z => ?_⟩, I.bs, Nat.le_trans ok.bsz I.sz, fun b o e hb => ?_, fun b hb z => ?_, I.stack, I.stkFree⟩,
    rfl, I.bare, Un.kept keep, ⟨_, (Heap.Ns.new s.heap (.type "dict")).keeps (pushCells_keeps _ _), fun i x v h1 h2 h3 => ?_⟩, fun x c e => ?_, frC _ (Nat.le_refl _), fun x c e => ?_, fun p hp => absurd (show p ∈ ([] : List (Addr × Obj)) from hp) (by simp), I.hok.kept keep, ?_⟩
  · -- has
    have hx' : (relabel sc X.env).names.lookup x = some .cell ∨ (relabel sc X.env).names.lookup x = some .free := hx
    have : ∃ k, sc.names.lookup x = some k := by
      have key : ∀ (l : List (Str × NameKind)) (k' : NameKind), (l.map fun (n, k) => if (k == NameKind.free && X.env.scope.kind == .function && X.env.kindOf n == some .cell) then (n, NameKind.cell) else (n, k)).lookup x = some k' → ∃ k, l.lookup x = some k := by
        intro l
        induction l with
        | nil => intro k' h; simp at h
        | cons a r ih =>
          intro k' h
          obtain ⟨n, k0⟩ := a
          cases hb : x == n with
          | true => exact ⟨k0, by simp [List.lookup_cons, hb]⟩
          | false =>
            have h2 : List.lookup x ((if (k0 == NameKind.free && X.env.scope.kind == .function && X.env.kindOf n == some .cell) = true then (n, NameKind.cell) else (n, k0)) :: (r.map _)) = some k' := h
            obtain ⟨k, hk⟩ := ih k' (by
              split at h2 <;> (simp only [List.lookup_cons, hb] at h2; exact h2))
            exact ⟨k, by simp only [List.lookup_cons, hb]; exact hk⟩
      rcases hx' with h | h
      · exact key _ _ h
      · exact key _ _ h
    obtain ⟨k, hk⟩ := this
    rcases relabel_look (scope := sc) (env := X.env) sc.names hk with h | ⟨h1, h2⟩
    · have hkk : k = .cell ∨ k = .free := by
        have h' : (relabel sc X.env).names.lookup x = some k := h
        rcases hx' with z | z <;> rw [z] at h' <;> cases h' <;> simp
      rcases hkk with rfl | rfl
      · exact Option.isSome_iff_exists.mp (PySem.W.cellsFrom_some sc.names _ _ (.inl hk))
      · obtain ⟨c, e⟩ := ok.has x (S.free (x, .free) (mem_of_lookup hk) rfl)
        exact ⟨c, blk_cap I S hk e⟩
    · subst h1
      obtain ⟨c, e⟩ := ok.has x (S.free (x, .free) (mem_of_lookup hk) rfl)
      exact ⟨c, blk_cap I S hk e⟩
  · -- cab
    have hfn' : sc.names.lookup x = some .cell := by
      have : (sc.names.lookup x == some NameKind.cell) = true := hfn
      simpa using this
    rcases blk_cells I S e with ⟨_, _, z⟩ | ⟨z, _⟩
    · exact absurd hfn' z
    · show s.heap.objs.size ≤ c
      exact Nat.le_of_succ_le z
  · rcases blk_cells I S e with ⟨z1, _, _⟩ | ⟨z1, _⟩
    · exact (hf b hb).2.2.2.2.1 x c z1 z
    · have := hl b hb
      rw [← z] at this
      exact Nat.lt_irrefl _ (Nat.lt_of_lt_of_le this (Nat.le_of_succ_le z1))
  · have q := (hf b hb).2.2.2.1
    rcases q with q | q
    · exact ok.noex b o e q
    · have q2 : b < X.base.objs.size := Heap.lt_size e
      exact Nat.lt_irrefl _ (Nat.lt_of_lt_of_le q2 (Nat.le_trans ok.bsz q))
  · rcases List.mem_cons.mp (I.stkSub b z) with z | z
    · exact (hf b hb).2.1 z
    · exact (hf b hb).2.2.1 z
  · exact blk_look I S (fun x c v _ hc => hc.keeps keep) i x v h1 h2
  · rcases blk_cells I S e with ⟨z1, _, _⟩ | ⟨_, z⟩
    · obtain ⟨v, hc⟩ := I.cell x c z1
      exact ⟨v, hc.keeps keep⟩
    · exact ⟨_, z⟩
  · rcases blk_cells I S e with ⟨z1, _, _⟩ | ⟨z, _⟩
    · exact I.freeC x c z1
    · exact frC c (Nat.le_of_succ_le z)
  · show (mkσ own.length caps σ).length = N'.length
    rw [S.names]; unfold mkσ; simp
theorem inv_again {pins' : List (Addr × Obj)} {σ5 : St} {H5 : Hp} {s5 : Shared} (I : Inv X pins σ H s) (S : CpScope X.N sc own caps X.env N') (hf : ∀ b ∈ fp, FpOk X pins H b) (B : Inv (blk X sc N' s.heap.objs.size s H fp) pins' σ5 H5 s5) :
    Inv (blk X sc N' s.heap.objs.size s H fp) pins' (mkσ own.length caps σ) H5 s5 := by
  obtain ⟨m, hn, _⟩ := B.loc
  have kc : ∀ x c v, X.env.cells.lookup x = some c → s.heap.IsCell c v → s5.heap.IsCell c v := fun x c v e ⟨o, ho, hd⟩ => by
    have nx : c ∉ fp := fun z => (hf c z).2.2.2.2.1 x c e rfl
    by_cases hc : c ∈ frs X.stack
    · obtain ⟨sl, q⟩ := B.base.slot c o ho (I.freeC x c e) hc nx
      exact ⟨_, q, hd⟩
    · exact ⟨o, B.base.keep c o ho (I.freeC x c e) hc nx, hd⟩
  exact ⟨B.ok, B.os, B.bare, B.base, ⟨m, hn, fun i x v h1 h2 h3 => blk_look I S kc i x v h1 h2⟩, B.cell, B.free, B.freeC, B.pin, B.hok, by show (mkσ own.length caps σ).length = N'.length; rw [S.names]; unfold mkσ; simp⟩
end
end L3

namespace L3
open PySem PySem.Spec PyProof.Rows L2

abbrev testsOf (ifs : List Expr) (env : Env) : Sem Bool := forIn ifs true fun c r => if r = true then do let ok ← isTrue c env (eval c env); pure (ForInStep.yield ok) else pure (ForInStep.yield r)
section
variable {prog : Program} {w : World} {A : Around} {R : Result → Shared → Prop} {s : Shared}
theorem comp_loop {elt target iter : Expr} {ifs : List Expr} {scope : Scope} {pos : Pos} {it acc : Value} {env : Env} (I : Nat → Shared → Prop)
    (turn : ∀ n s, I n s → wpAny (model prog w) A (pyNext it) (fun r s₁ => match r with
      | none => R (.ok .next) s₁
      | some v => wpAny (model prog w) A (letOwnedTupleGo target it v) (fun _ s₁' => wpAny (model prog w) A (assign target env v) (fun _ s₂ =>
          wpAny (model prog w) A (testsOf ifs env) (fun ok s₃ =>
            if ok = true then wpAny (model prog w) A (eval elt env) (fun x s₄ =>
              wpAny (model prog w) A (call (.builtin "list.append") [acc, x]) (fun _ s₅ => ∃ m, m < n ∧ I m s₅) (fun _ _ => False) s₄) (fun _ _ => False) s₃
            else ∃ m, m < n ∧ I m s₃) (fun _ _ => False) s₂) (fun _ _ => False) s₁') (fun _ _ => False) s₁) (fun _ _ => False) s)
    (n : Nat) (h : I n s) :
    codeAny (model prog w) A (.compLoop (.ListComp elt [⟨target, iter, ifs, 0⟩] scope pos) 0 it acc env) R s := by
  refine codeAny_loop rfl I (fun n s hI => ?_) n h
  show wpAny _ A ((compTurn (.ListComp elt [⟨target, iter, ifs, 0⟩] scope pos) 0 it acc env).onRaise (fun x => do noteFrame x env; theTreesLotGoes x)) _ _ s
  refine wpAny_noted ?_
  rw [compTurn_list]
  refine wpAny_bind (wpAny_standAt (wpAny_bind (wpAny_mono (turn n s hI) (fun r s₁ h₁ => ?_) fun _ _ h' => h'.elim)))
  cases r with
  | none => exact wpAny_pure h₁
  | some v =>
    refine wpAny_bind (wpAny_mono h₁ (fun _ s₁' h₁' => ?_) fun _ _ h' => h'.elim)
    refine wpAny_bind (wpAny_mono h₁' (fun _ s₂ h₂ => wpAny_bind (wpAny_mono h₂ (fun ok s₃ h₃ => ?_) fun _ _ h' => h'.elim)) fun _ _ h' => h'.elim)
    cases ok with
    | false => exact wpAny_pure ⟨rfl, h₃⟩
    | true =>
      exact wpAny_bind (wpAny_bind (wpAny_mono h₃ (fun x s₄ h₄ => wpAny_bind (wpAny_mono h₄ (fun _ s₅ h₅ => wpAny_pure (wpAny_pure ⟨rfl, h₅⟩)) fun _ _ h' => h'.elim)) fun _ _ h' => h'.elim))
end

def PTs (X : Cx) (ifs : List Expr) (t : TT) : Prop :=
  ∀ (pins : List (Addr × Obj)) (s : Shared) (σ : St) (H : Hp) (Q : Bool → Hp → Prop), Inv X pins σ H s → t σ H Q → wpAny (model X.prog X.w) X.A (testsOf ifs X.env) (TP X pins σ Q) X.xe s
theorem pts_nil {X : Cx} : PTs X [] (fun _ H Q => Q true H) := fun pins s σ H Q I h => wpAny_tests_nil ⟨H, I, h⟩
theorem pts_one {X : Cx} {c : Expr} {t : TT} (h : PT X c t) : PTs X [c] t := fun pins s σ H Q I q => wpAny_tests_one (h pins s σ H Q I q)

def CompW (acc : Addr) (J : It) (σ' : St) (g : TG) (tc : TT) (te : TE) (Q : V → Hp → Prop) (H1 : Hp) : Prop :=
  ∃ W : Nat → Nat → List V → Hp → Prop, (∃ m, W 0 m [] H1) ∧ ∀ i m vs H, W i m vs H → H acc = some (.lst vs) ∧ vs.length < sizeLine + 1 ∧
    ((J.stop i H ∧ Q (.ref acc) H) ∨ (J.go i H ∧ vs.length < sizeLine ∧ ∀ x H', J.yld i H x H' → g x σ' H' fun σ2 H2 => tc σ2 H2 fun b H3 =>
      if b = true then te σ2 H3 fun v H4 => H4 acc = some (.lst vs) ∧ ∃ m', m' < m ∧ W (i + 1) m' (vs ++ [v]) (upd H4 acc (.lst (vs ++ [v])))
      else ∃ m', m' < m ∧ W (i + 1) m' vs H3))
def tComp (own : Nat) (caps : List Nat) (wi : TI) (g : TG) (tc : TT) (te : TE) : TE := fun σ H Q => wi σ H fun J H1 => ∀ acc, H1 acc = none → CompW acc J (mkσ own caps σ) g tc te Q (upd H1 acc (.lst []))

section
variable {X : Cx} {sc : Scope} {own : List Str} {caps : List Nat} {N' : List Str} {elt tg iter : Expr} {ifs : List Expr} {pos : Pos} {wi : TI} {g : TG} {tc : TT} {te : TE}
theorem comp_core (S : CpScope X.N sc own caps X.env N') (hc : X.calm = true) (hi : PI X tg iter wi)
    (hg : ∀ C s₀ H₀ fp, PG (blk X sc N' C s₀ H₀ fp) tg g) (ht : ∀ C s₀ H₀ fp, PTs (blk X sc N' C s₀ H₀ fp) ifs tc) (he : ∀ C s₀ H₀ fp, PE (blk X sc N' C s₀ H₀ fp) elt te)
    {e : Expr} (ee : e = .ListComp elt [⟨tg, iter, ifs, 0⟩] sc pos) (hs : ∀ x, foldedSetIterable iter X.env x = pure x)
    {use : Option (Value → Sem Unit)} {ps : Pos} {Qv : Value → Shared → Prop} {pins : List (Addr × Obj)} {s : Shared} {σ : St} {H : Hp} {Q : V → Hp → Prop} (I : Inv X pins σ H s) (h : tComp own.length caps wi g tc te σ H Q)
    (fin : ∀ acc C H' s5, Inv X pins σ H' s5 → Q (.ref acc) H' → (∃ m, s5.heap.Ns C m) → H' C = none → C ≠ X.env.locals → X.s₀.heap.objs.size ≤ C → (∀ x c, X.env.cells.lookup x = some c → c ≠ C) → (∀ p ∈ X.pn ++ pins, p.1 ≠ C) → C ∉ X.fs →
      compPost (model X.prog X.w) X.A X.xe use Qv (.ref acc) C (.ok .next) s5) :
    wpAny (model X.prog X.w) X.A (comprehension e sc X.env ps (newList []) false (eval iter X.env) use) Qv X.xe s := by
  subst ee
  refine wpAny_comprehension_free (g := ⟨tg, iter, ifs, 0⟩) (gs := []) (cl := clOf X.env sc.names []) rfl hs (clos_ok (free_has I S)) S.kind ?_ (thn (hi pins s σ H _ I h) fun v s1 h1 => thn h1 fun itv s2 h2 => ?_)
  · intro p hp hk
    have nd := S.snd
    rw [List.Nodup, List.pairwise_map] at nd
    have d : ∀ (l : List (Str × NameKind)), (l.Pairwise fun a b => a.1 ≠ b.1) → p ∈ l → l.lookup p.1 = some .local := by
      intro l
      induction l with
      | nil => intro _ h; cases h
      | cons a r ih =>
        intro hpw h1
        obtain ⟨p1, p2⟩ := List.pairwise_cons.mp hpw
        rcases List.mem_cons.mp h1 with e1 | h1
        · subst e1
          rw [List.lookup_cons]; simp [hk]
        · have hb : (p.1 == a.1) = false := by rw [beq_eq_false_iff_ne]; exact Ne.symm (p1 p h1)
          rw [List.lookup_cons, hb]; exact ih p2 h1
    exact d _ nd hp
  obtain ⟨it, fp, tn, J, H2, rfl, I2, T, st2, f2, R2⟩ := h2
  have hp0 := I2.fresh
  refine wpAny_newObj_type ?_
  have I3 := I2.lnew (its := []) (ys := []) (t' := s2.toks) .nil (Nat.zero_le _)
  generalize hacc : s2.heap.objs.size = acc at *
  obtain ⟨W, ⟨m0, w0⟩, turn⟩ := R2 acc hp0
  have f3 : ∀ b ∈ fp, FpOk X pins (upd H2 acc (.lst [])) b := fun b hb => by
    refine ⟨?_, (f2 b hb).2⟩
    obtain ⟨o, eo, _⟩ := T.obj _ _ st2 b hb
    rw [upd_ne (Nat.ne_of_lt (by rw [← hacc]; exact Heap.lt_size eo))]
    exact (f2 b hb).1
  have hlt : ∀ b ∈ fp, b < (s2.heap.push { cls := .type "list", data := .seq ([] : List Value).toArray }).objs.size := fun b hb => by
    obtain ⟨o, eo, _⟩ := T.obj _ _ st2 b hb
    rw [Heap.size_push]
    exact Nat.lt_succ_of_lt (Heap.lt_size eo)
  have st3 : tn 0 (s2.heap.push { cls := .type "list", data := .seq ([] : List Value).toArray }) := T.keep _ _ _ st2 fun b hb o e => Heap.get?_push_of_some _ e
  refine new_block ?_
  show codeAny _ _ (.compStart (.ListComp elt [⟨tg, iter, ifs, 0⟩] sc pos) 0 (.ref it) (.ref acc) (blkEnv sc (s2.heap.push { cls := .type "list", data := .seq ([] : List Value).toArray }).objs.size X.env)) (compPost _ _ _ use Qv (.ref acc) (s2.heap.push { cls := .type "list", data := .seq ([] : List Value).toArray }).objs.size) _
  generalize hs3 : ({ s2 with heap := s2.heap.push { cls := .type "list", data := .seq ([] : List Value).toArray }, toks := s2.toks } : Shared) = s3 at *
  have hh3 : s2.heap.push { cls := .type "list", data := .seq ([] : List Value).toArray } = s3.heap := by rw [← hs3]
  have hs3' : ({ s2 with heap := s2.heap.push { cls := .type "list", data := .seq ([] : List Value).toArray } } : Shared) = s3 := by rw [← hs3]
  rw [hh3] at hlt st3 ⊢
  have I4 := inv_block I3 S f3 hlt
  have st4 : tn 0 (pushCells (s3.heap.push { cls := .type "dict", data := .dict #[] }) sc.names) := T.keep _ _ _ st3 fun b hb o e => pushCells_keeps _ _ b o (Heap.get?_push_of_some _ e)
  have key : codeAny (model X.prog X.w) X.A (.compLoop (.ListComp elt [⟨tg, iter, ifs, 0⟩] sc pos) 0 (.ref it) (.ref acc) (blkEnv sc s3.heap.objs.size X.env)) (compPost (model X.prog X.w) X.A X.xe use Qv (.ref acc) s3.heap.objs.size)
      { s3 with heap := pushCells (s3.heap.push { cls := .type "dict", data := .dict #[] }) sc.names } := by
    have stat : ∀ {H' : Hp}, (∀ b ∈ fp, H' b = none) → ∀ b ∈ fp, FpOk (blk X sc N' s3.heap.objs.size s3 (upd H2 acc (.lst [])) fp) [] H' b := fun hn b hb =>
      ⟨hn b hb, (I4.ok.exf b hb).1, I4.ok.exfs b hb, .inl hb, (I4.ok.exf b hb).2, fun p hp => absurd (show p ∈ ([] : List (Addr × Obj)) from hp) (by simp)⟩
    refine comp_loop (fun n s' => ∃ i vs σ' H', Inv (blk X sc N' s3.heap.objs.size s3 (upd H2 acc (.lst [])) fp) [] σ' H' s' ∧ tn i s'.heap ∧ (∀ b ∈ fp, H' b = none) ∧ W i n vs H') ?_ m0
      ⟨0, [], mkσ own.length caps σ, _, I4, st4, fun b hb => (f3 b hb).1, w0⟩
    rintro n s5 ⟨i, vs, σ5, H5, I5, st5, fr5, w5⟩
    obtain ⟨ha5, hz5, ⟨stop, qn⟩ | ⟨go, hz, step⟩⟩ := turn i n vs H5 w5
    · refine thn (T.done (blk X sc N' s3.heap.objs.size s3 (upd H2 acc (.lst [])) fp) rfl rfl rfl hc i [] s5 σ5 H5 _ I5 (stat fr5) st5 stop) fun r s6 ⟨hr, I6⟩ => ?_
      subst hr
      have IX : Inv X pins σ H5 s6 := I3.call' (ch := fp) I6.os I6.base I6.hok I6.bare fun b hb => ⟨(f3 b hb).2.2.2.1, (f3 b hb).2.1, (f3 b hb).2.2.2.2.1, (f3 b hb).2.2.2.2.2⟩
      obtain ⟨m6, hn6, _⟩ := I6.loc
      refine fin acc s3.heap.objs.size H5 s6 IX qn ⟨m6, hn6⟩ I6.free (Nat.ne_of_gt I3.lt) I3.sz (fun x c e z => ?_) (fun p hp z => ?_) (I3.nofs (Nat.le_refl _))
      · obtain ⟨v, q⟩ := I3.cell x c e
        exact absurd q.lt (by rw [z]; exact Nat.lt_irrefl _)
      · exact absurd (Heap.lt_size (I3.pin p hp).1) (by rw [z]; exact Nat.lt_irrefl _)
    · -- a turn: the block's own names are forgotten first
      have I5' : Inv (blk X sc N' s3.heap.objs.size s3 (upd H2 acc (.lst [])) fp) [] (mkσ own.length caps σ) H5 s5 := inv_again I3 S f3 I5
      refine thn (T.item (blk X sc N' s3.heap.objs.size s3 (upd H2 acc (.lst [])) fp) rfl rfl rfl hc i [] s5 _ H5 _ I5' (stat fr5) st5 go) fun r s6 ⟨u, hr, h6⟩ => ?_
      subst hr
      refine thn h6 fun _ s7 ⟨x, H7, I7, r7, y7, st7, fr7⟩ => ?_
      have I7' := I7.pinned (stat fr7) (T.obj _ _ st7)
      refine thn (hg _ _ _ _ _ s7 _ H7 x u _ I7' r7 (step x H7 y7)) fun _ s8 ⟨σ8, H8, I8, q8⟩ => ?_
      refine thn (ht _ _ _ _ _ s8 σ8 H8 _ I8 q8) fun b s9 ⟨H9, I9, q9⟩ => ?_
      have again : ∀ {vs' : List V} {σ' : St} {H' : Hp} {s' : Shared}, Inv (blk X sc N' s3.heap.objs.size s3 (upd H2 acc (.lst [])) fp) ([] ++ pinsAt fp s7.heap) σ' H' s' → (∃ m', m' < n ∧ W (i + 1) m' vs' H') →
          ∃ m, m < n ∧ ∃ i vs σ' H', Inv (blk X sc N' s3.heap.objs.size s3 (upd H2 acc (.lst [])) fp) [] σ' H' s' ∧ tn i s'.heap ∧ (∀ b ∈ fp, H' b = none) ∧ W i m vs H' := fun {vs' σ' H' s'} I' ⟨m', hm, w'⟩ => by
        refine ⟨m', hm, i + 1, vs', σ', H', I'.unpinned, T.keep _ _ _ st7 fun b hb o e => (I'.pin (b, o) (List.mem_append_right _ (List.mem_append_right _ (mem_pinsAt hb e)))).1, fun b hb => ?_, w'⟩
        obtain ⟨o, e, d⟩ := T.obj _ _ st7 b hb
        exact (I'.pin (b, o) (List.mem_append_right _ (List.mem_append_right _ (mem_pinsAt hb e)))).2.1
      cases b with
      | false =>
        rw [if_neg Bool.false_ne_true] at q9 ⊢
        exact again I9 q9
      | true =>
        rw [if_pos rfl] at q9 ⊢
        refine thn (he _ _ _ _ _ s9 σ8 H9 _ I9 q9) fun y s10 ⟨v, H10, I10, r10, hacc10, q10⟩ => ?_
        refine thn (mt_append (X := blk X sc N' s3.heap.objs.size s3 (upd H2 acc (.lst [])) fp) _ s10 σ8 H10 (.ref acc) [v] (.ref acc) [y] (fun _ H' => H' = upd H10 acc (.lst (vs ++ [v]))) I10 rfl (.cons r10 .nil) ⟨acc, vs, v, rfl, rfl, hacc10, hz, rfl⟩) fun _ s11 ⟨_, H11, I11, _, e11⟩ => ?_
        subst e11
        exact again I11 q10
  exact codeAny_compStart_list key (T.self _ _ _ _ _ st4 key)
end
end L3

namespace L3
open PySem PySem.Spec PyProof.Rows L2

def ItD (K : PySem.W.Frag) (F Hx : Hp) (J : It) (ds : List D) : Prop := ds.length ≤ sizeLine ∧ ∀ (i : Nat) (H1 F1 : Hp), Same F F1 → Same F1 H1 → Same Hx H1 →
  (i = ds.length → J.stop i H1) ∧ ∀ d, ds[i]? = some d → J.go i H1 ∧ ∀ x H', J.yld i H1 x H' → ∃ F2, Gr F1 H1 F2 H' ∧ Rep K F2 d x
def noH : Hp := fun _ => none
theorem noH_same {H : Hp} : Same noH H := fun _ _ e => by cases e
def upI (K : PySem.W.Frag) (F0 H0 : Hp) (t : TF2) (E : XW) : TI := fun σ H R => ∃ F Γ P, SR K F0 H0 F H σ Γ ∧ t Γ P E ∧ ∀ ds Γ' F' H' J Hx, SR K F0 H0 F' H' σ Γ' → Same F F' → Same Hx H' → ItD K F' Hx J ds → P ds Γ' → R J H'
def upI0 (K : PySem.W.Frag) (F0 H0 : Hp) (t : TF2) (E : XW) : TI := fun σ H R => ∃ F Γ P, SR K F0 H0 F H σ Γ ∧ t Γ P E ∧ ∀ ds Γ' F' H' J, SR K F0 H0 F' H' σ Γ' → Same F F' → ItD K F' noH J ds → P ds Γ' → R J H'
def QI (X : Cx) (F0 H0 : Hp) (tg e : Expr) (t : TF2) : Prop := ∀ z E, Ctx (X.wsh z) F0 H0 E → PI (X.wsh z) tg e (upI0 X.K F0 H0 t E)
def QIc (X : Cx) (F0 H0 : Hp) (tg e : Expr) (t : TF2) : Prop := ∀ z E, Ctx (X.wsh z) F0 H0 E → PI (X.wsh z) tg e (upI X.K F0 H0 t E)
theorem piC {X : Cx} {tg e : Expr} {t t' : TI} (h : PI X tg e t) (hi : ∀ σ H R, t' σ H R → t σ H R) : PI X tg e t' := fun pins s σ H R I q => h pins s σ H R I (hi _ _ _ q)
theorem qic {X : Cx} {F0 H0 : Hp} {tg e : Expr} {t : TF2} (h : QI X F0 H0 tg e t) : QIc X F0 H0 tg e t := fun z E cx => piC (h z E cx) fun σ H R ⟨F, Γ, P, S, q, k⟩ => ⟨F, Γ, P, S, q, fun ds Γ' F' H' J S' s' hJ hp => k ds Γ' F' H' J noH S' s' noH_same hJ hp⟩

def iSeqZ (K : PySem.W.Frag) (tl : TE) : TI := fun σ H R => tl σ H fun x H1 => ∃ a, x = .ref a ∧ ((∃ xs, SqL K H1 a xs ∧ (xs.length ≤ sizeLine → R (Itl K a) H1)) ∨ (∃ xs, SqT K H1 a xs ∧ (xs.length ≤ sizeLine → R (Itt K a) H1)))
theorem pi_seqZ {X : Cx} {l tg : Expr} {tl : TE} (hl : PE X l tl) : PI X tg l (iSeqZ X.K tl) := by
  intro pins s σ H R I h
  refine thn (hl pins s σ H _ I h) fun v s1 ⟨x, H1, I1, r1, q1⟩ => ?_
  obtain ⟨a, e, q⟩ := q1
  subst e
  cases r1
  rcases q with ⟨xs, hq, q⟩ | ⟨xs, hq, q⟩
  · obtain ⟨its, rv, p, hz⟩ := I1.list hq
    refine wpAny_pyIter_list p.isList ?_
    refine ⟨s1.heap.objs.size, [s1.heap.objs.size], _, _, H1, rfl, I1.kept (t' := s1.toks) fun b o e => Heap.get?_push_of_some _ e, turn_list a _, ⟨_, Heap.get?_push_size _ rfl, rfl, rfl⟩, fun b hb => ?_, q hz⟩
    obtain rfl : b = s1.heap.objs.size := by simpa using hb
    exact I1.fpOk (Nat.le_refl _) (I1.hok.fresh (Nat.le_refl _))
  · obtain ⟨its, rv, p, hz⟩ := I1.tuple hq
    refine wpAny_pyIter_tuple (show s1.heap.IsTuple a its.toArray from p) ?_
    refine ⟨s1.heap.objs.size, [s1.heap.objs.size], _, _, H1, rfl, I1.kept (t' := s1.toks) fun b o e => Heap.get?_push_of_some _ e, turn_tuple a _, ⟨_, Heap.get?_push_size _ rfl, rfl, rfl⟩, fun b hb => ?_, q hz⟩
    obtain rfl : b = s1.heap.objs.size := by simpa using hb
    exact I1.fpOk (Nat.le_refl _) (I1.hok.fresh (Nat.le_refl _))
theorem itd_tup {K : PySem.W.Frag} {F Hx : Hp} {a : Addr} {vs : List V} {ds : List D} (hq : ∀ H1, Same F H1 → SqT K H1 a vs) (rs : Reps K F ds vs) (hz : vs.length ≤ sizeLine) : ItD K F Hx (Itt K a) ds := by
  have hl := reps_len rs
  refine ⟨by omega, fun i H1 F1 s1 s2 s3 => ⟨fun e => ⟨vs, hq H1 (s1.trans s2), by omega⟩, fun d hd => ?_⟩⟩
  obtain ⟨v, hv, rv⟩ := reps_get rs hd
  refine ⟨⟨vs, v, hq H1 (s1.trans s2), hv⟩, fun x H' y => ?_⟩
  obtain ⟨rfl, y⟩ := y
  have := y vs (hq _ (s1.trans s2))
  rw [hv] at this; cases this
  exact ⟨F1, Gr.refl s2, rv.up s1⟩
def iL (te : TE2) : TF2 := fun Γ P E => te Γ (fun d Γ1 => match d with | .lst ds => P ds Γ1 | .tup ds => P ds Γ1 | _ => False) E
section
variable {X : Cx} {F0 H0 : Hp} {e tg : Expr} {es : List Expr} {pos : Pos} {te : TE2} {g : TG2} {gs : TGs2} {ti : TF2} {tb : TS2}
theorem qi_seq (h : QE X F0 H0 e te) : QI X F0 H0 tg e (iL te) := fun z E cx => piC (pi_seqZ (h z E cx)) fun σ H R ⟨F, Γ, P, S, q, k⟩ => ⟨F, Γ, _, S, q, fun d Γ1 F1 H1 v R1 s1 r1 h1 => by
  cases d with
  | lst ds =>
    unfold Rep at r1
    obtain ⟨a, vs, rfl, hq, rs⟩ := r1
    refine ⟨a, rfl, .inl ⟨vs, R1.g.seq hq, fun hz => k ds Γ1 F1 H1 _ R1 s1 ?_ h1⟩⟩
    refine ⟨by rw [reps_len rs]; exact hz, fun i H2 F2 s2 s3 s4 => ⟨fun e => ⟨vs, s3.seq (s2.seq hq), by rw [e, reps_len rs]; exact Nat.le_refl _⟩, fun d hd => ?_⟩⟩
    obtain ⟨v, hv, rv⟩ := reps_get rs hd
    refine ⟨⟨vs, v, s3.seq (s2.seq hq), hv⟩, fun x H' y => ?_⟩
    obtain ⟨rfl, y⟩ := y
    have := y vs (s3.seq (s2.seq hq))
    rw [hv] at this; cases this
    exact ⟨F2, Gr.refl s3, rv.up s2⟩
  | tup ds =>
    unfold Rep at r1
    obtain ⟨a, vs, rfl, hq, rs⟩ := r1
    exact ⟨a, rfl, .inr ⟨vs, sqT_mono R1.g hq, fun hz => k ds Γ1 F1 H1 _ R1 s1 (itd_tup (fun H2 s => sqT_mono s hq) rs hz) h1⟩⟩
  | _ => exact False.elim h1⟩
def cForI (ti : TF2) (g : TG2) (tb : TS2) : TS2 := fun D0 Γ E => ti Γ (fun ds Γ1 => LoopW ds g tb D0 E Γ1) E
theorem qs_forI {iter : Expr} {body : List Stmt} (hc : X.calm = true) (hi : QI X F0 H0 tg iter ti) (hg : QG X F0 H0 tg g) (hb : QSs X F0 H0 body tb) (hs : ∀ x, foldedSetIterable iter X.env x = pure x := by intro _; rfl) :
    QS X F0 H0 (.For tg iter body [] pos) (cForI ti g tb) := fun z E cx =>
  psC (ps_for (X := X.wsh z) cx.po hc (hi z E cx) (hg z E cx) (hb z E cx) hs) fun Dn σ H ⟨F, Γ, D2, R, h, k⟩ => ⟨F, Γ, _, R, h, fun ds Γ1 F1 H1 J R1 s1 hJ h1 => by
    obtain ⟨I, i0, turn, done⟩ := h1
    refine ⟨fun i m σ H => m = ds.length - i ∧ i ≤ ds.length ∧ ∃ F2 Γ2, SR X.K F0 H0 F2 H σ Γ2 ∧ Same F1 F2 ∧ I i Γ2, ⟨ds.length, by simp, Nat.zero_le _, F1, Γ1, R1, .refl _, i0⟩, ?_⟩
    rintro i m σ H ⟨rfl, hi, F2, Γ2, R2, s2, hI⟩
    obtain ⟨hstop, hgo⟩ := hJ.2 i H F2 s2 R2.g noH_same
    by_cases hlt : i < ds.length
    · obtain ⟨go, yl⟩ := hgo ds[i] (List.getElem?_eq_getElem hlt)
      refine .inr ⟨go, fun σ H => ∃ F2 Γ2, SR X.K F0 H0 F2 H σ Γ2 ∧ Same F1 F2 ∧ I (i + 1) Γ2, fun σ' H' p' => ⟨ds.length - (i + 1), by omega, rfl, hlt, p'⟩, fun x H' y => ?_⟩
      obtain ⟨F3, gr, rx⟩ := yl x H' y
      exact ⟨F3, Γ2, _, ds[i], R2.grow gr, rx, turn i ds[i] Γ2 (List.getElem?_eq_getElem hlt) hI, fun Γ4 F4 H4 σ4 R4 s4 p => ⟨F4, Γ4, { D2 with nx := I (i + 1), ct := I (i + 1), bk := D2.nx }, R4, p, ⟨fun Γ5 F5 H5 σ5 R5 s5 q => ⟨F5, Γ5, R5, s2.trans (gr.f.trans (s4.trans s5)), q⟩,
        fun Γ5 F5 H5 σ5 R5 s5 q => k.nx _ _ _ _ R5 (s1.trans (s2.trans (gr.f.trans (s4.trans s5)))) q, fun Γ5 F5 H5 σ5 R5 s5 q => ⟨F5, Γ5, R5, s2.trans (gr.f.trans (s4.trans s5)), q⟩, k.rt, k.rf, k.rT⟩⟩⟩
    · obtain rfl : i = ds.length := by omega
      exact .inl ⟨hstop rfl, k.nx _ _ _ _ R2 (s1.trans s2) (done _ hI)⟩⟩

def capS (Γ : G2) (j : Nat) : Slot := match Γ[j]? with | some (.pu d) => .pu d | _ => .no
def capG (own : Nat) (caps : List Nat) (Γ : G2) : G2 := List.replicate own .no ++ caps.map (capS Γ)
theorem sr_block {K : PySem.W.Frag} {F H : Hp} {σ : St} {Γ : G2} (own : Nat) (caps : List Nat) (R : SR K F0 H0 F H σ Γ) : SR K F H F H (mkσ own caps σ) (capG own caps Γ) := by
  have len : (mkσ own caps σ).length = (capG own caps Γ).length := by simp [mkσ, capG]
  have noow : ∀ (i : Nat) s o a, (capG own caps Γ)[i]? = some s → ¬ Own1 s o a := fun i s o a e => by
    unfold capG at e
    by_cases hi : i < own
    · rw [List.getElem?_append_left (by simpa using hi), List.getElem?_replicate] at e
      rw [if_pos hi] at e
      cases e; exact fun h => h
    · rw [List.getElem?_append_right (by simpa using hi), List.getElem?_map] at e
      cases q : caps[i - (List.replicate own Slot.no).length]? with
      | none => rw [q] at e; cases e
      | some j =>
        rw [q] at e
        have e' : capS Γ j = s := by simpa using e
        unfold capS at e'
        split at e' <;> (subst e'; exact fun h => h)
  refine ⟨Gr.refl R.g, len, fun i s e => ?_, fun i j a ⟨s, o, e, _, h⟩ => absurd h (noow i s o a e)⟩
  by_cases hi : i < own
  · refine ⟨none, ?_, ?_⟩
    · unfold mkσ; rw [List.getElem?_append_left (by simpa using hi), List.getElem?_replicate, if_pos hi]
    · unfold capG at e; rw [List.getElem?_append_left (by simpa using hi), List.getElem?_replicate, if_pos hi] at e
      cases e; trivial
  · unfold capG at e
    rw [List.getElem?_append_right (by simpa using hi), List.getElem?_map, List.length_replicate] at e
    cases q : caps[i - own]? with
    | none => rw [q] at e; cases e
    | some j =>
      rw [q] at e
      have e' : capS Γ j = s := by simpa using e
      refine ⟨(σ[j]?).join, ?_, ?_⟩
      · unfold mkσ; rw [List.getElem?_append_right (by simpa using hi), List.getElem?_map, List.length_replicate, q]; rfl
      · unfold capS at e'
        split at e'
        · rename_i d hd
          subst e'
          obtain ⟨o, e1, v, rfl, rv⟩ := R.sl j _ hd
          exact ⟨v, by rw [e1]; rfl, rv⟩
        · subst e'; trivial
def oneR (g : TG2) (tc : TT2) (te : TE2) (Γ0 : G2) (x : D) (P : List D → Prop) : Prop := g x Γ0 (fun Γ1 => tc Γ1 (fun b Γ2 => if b = true then te Γ2 (fun d _ => P [d]) noX else P []) noX) noX
def compR (one : D → (List D → Prop) → Prop) : List D → (List D → Prop) → Prop
  | [], P => P []
  | x :: xs, P => one x fun ys => compR one xs fun zs => P (ys ++ zs)
def fComp (own : Nat) (caps : List Nat) (ti : TF2) (g : TG2) (tc : TT2) (te : TE2) : TF2 := fun Γ P E => ti Γ (fun ds Γ1 => compR (oneR g tc te (capG own caps Γ1)) ds fun ys => P ys Γ1) E
def cYes : TT2 := fun Γ P _ => P true Γ
def QTs (X : Cx) (F0 H0 : Hp) (ifs : List Expr) (t : TT2) : Prop := ∀ z E, Ctx (X.wsh z) F0 H0 E → PTs (X.wsh z) ifs (upT X.K F0 H0 t E)
theorem qts_nil : QTs X F0 H0 [] cYes := fun z E cx pins s σ H Q I ⟨F, Γ, P, R, h, k⟩ => pts_nil pins s σ H Q I (k _ _ _ _ R (.refl _) h)
theorem qts_one {c : Expr} {t : TT2} (h : QT X F0 H0 c t) : QTs X F0 H0 [c] t := fun z E cx => pts_one (h z E cx)
end

section
variable {X : Cx} {F0 H0 : Hp} {elt tg iter : Expr} {ifs : List Expr} {sc : Scope} {own : List Str} {caps : List Nat} {N' : List Str} {pos : Pos} {te : TE2} {g : TG2} {tc : TT2} {ti : TF2}
def gX (K : PySem.W.Frag) (g : TG2) : TG := fun v σ H Q => ∃ F0 H0, upG K F0 H0 g noX v σ H Q
def tX (K : PySem.W.Frag) (t : TT2) : TT := fun σ H Q => ∃ F0 H0, upT K F0 H0 t noX σ H Q
def eX (K : PySem.W.Frag) (t : TE2) : TE := fun σ H Q => ∃ F0 H0, upE K F0 H0 t noX σ H Q
theorem fr_keep {F H F' H' : Hp} {a : Addr} {o : HO} (gr : Gr F H F' H') (h : F a = none) (e : H a = some o) : F' a = none := by
  cases q : F' a with
  | none => rfl
  | some u => have z := gr.n a u q h; rw [e] at z; cases z
theorem comp_word {K : PySem.W.Frag} {F H : Hp} {σ : St} {Γ : G2} {J : It} {Hx : Hp} {ds : List D} {acc : Addr} {P : List D → Prop} {Q : V → Hp → Prop} (R : SR K F0 H0 F H σ Γ) (hJ : ItD K F Hx J ds) (hx : Same Hx H) (ha : H acc = none)
    (h : compR (oneR g tc te (capG own.length caps Γ)) ds P)
    (fin : ∀ ys F' H' vs, SR K F0 H0 F' H' σ Γ → Same F F' → H' acc = some (.lst vs) → F' acc = none → H0 acc = none → Reps K F' ys vs → Apart σ Γ acc → P ys → Q (.ref acc) H') :
    CompW acc J (mkσ own.length caps σ) (gX K g) (tX K tc) (eX K te) Q (upd H acc (.lst [])) := by
  obtain ⟨R1, e1, e2, e3, ap⟩ := new_lst (ds := []) (vs := []) R ha (by unfold Reps; rfl)
  have hx1 : Same Hx (upd H acc (.lst [])) := fun b u e => by rw [upd_ne (ne_of_none (hx b u e) ha)]; exact hx b u e
  have xa : ∀ u, Hx acc ≠ some u := fun u e => by rw [hx acc u e] at ha; cases ha
  refine ⟨fun i m vs H' => m = ds.length - i ∧ i ≤ ds.length ∧ ∃ F' ys, SR K F0 H0 F' H' σ Γ ∧ Same F F' ∧ Same Hx H' ∧ H' acc = some (.lst vs) ∧ F' acc = none ∧ Reps K F' ys vs ∧ vs.length ≤ i ∧ compR (oneR g tc te (capG own.length caps Γ)) (ds.drop i) (fun zs => P (ys ++ zs)),
    ⟨ds.length, by simp, Nat.zero_le _, F, [], R1, .refl _, hx1, e1, e2, by unfold Reps; rfl, Nat.le_refl _, by simpa using h⟩, ?_⟩
  rintro i m vs H' ⟨rfl, hi, F', ys, R', sF, hx', ha', fa', rs, lv, hc⟩
  have hz := hJ.1
  refine ⟨ha', by omega, ?_⟩
  obtain ⟨hstop, hgo⟩ := hJ.2 i H' F' sF R'.g hx'
  by_cases hlt : i < ds.length
  · obtain ⟨go, yl⟩ := hgo ds[i] (List.getElem?_eq_getElem hlt)
    refine .inr ⟨go, by omega, fun x H2 y => ?_⟩
    obtain ⟨F2, gr, rx⟩ := yl x H2 y
    rw [List.drop_eq_getElem_cons hlt] at hc
    have R2 := R'.grow gr
    refine ⟨F2, H2, F2, capG own.length caps Γ, _, ds[i], sr_block own.length caps R2, rx, hc, fun Γ3 F3 H3 σ3 R3 s3 q3 => ?_⟩
    refine ⟨F2, H2, F3, Γ3, _, R3, q3, fun b Γ4 F4 H4 R4 s4 q4 => ?_⟩
    have gr2 : Gr F' H' F4 H4 := gr.trans R4.gr
    cases b with
    | false =>
      rw [if_neg Bool.false_ne_true] at q4
      show ∃ m', m' < ds.length - i ∧ _
      refine ⟨ds.length - (i + 1), by omega, rfl, hlt, F4, ys, R'.grow gr2, sF.trans gr2.f, fun b u e => gr2.h b u (hx' b u e), gr2.h _ _ ha', fr_keep gr2 fa' ha', rs.up gr2.f, by omega, ?_⟩
      simpa using q4
    | true =>
      rw [if_pos rfl] at q4
      show eX K te σ3 H4 _
      refine ⟨F2, H2, F4, Γ4, _, R4, q4, fun d Γ5 F5 H5 v R5 s5 rv q5 => ?_⟩
      have gr3 : Gr F' H' F5 H5 := gr.trans R5.gr
      have a5 := gr3.h _ _ ha'
      have f5 := fr_keep gr3 fa' ha'
      refine ⟨a5, ds.length - (i + 1), by omega, rfl, hlt, F5, ys ++ [d], ?_, sF.trans gr3.f, fun b u e => ?_, upd_same, f5, reps_app (rs.up gr3.f) (reps_one rv), by simp; omega, ?_⟩
      · have R6 := R'.grow gr3
        refine ⟨⟨R6.gr.f, fun b u e => ?_, fun b u e => ?_, R6.gr.n⟩, R6.len, fun j sl e => ?_, R6.ap⟩
        · rw [upd_ne (ne_of_none e f5)]; exact R6.g b u e
        · rw [upd_ne (ne_of_none e e3)]; exact R6.gr.h b u e
        · obtain ⟨o, p1, p2⟩ := R6.sl j sl e
          refine ⟨o, p1, slotR_move p2 (.refl _) fun c hc => ⟨(own1_of p2 hc).1, fun u q => ?_⟩⟩
          have : c ≠ acc := fun z => by subst z; exact ap j ⟨sl, o, e, p1, hc⟩
          rw [upd_ne this]; exact q
      · rw [upd_ne (fun z => xa u (by rw [← z]; exact e))]; exact gr3.h b u (hx' b u e)
      · simpa [List.append_assoc] using q5
  · obtain rfl : i = ds.length := by omega
    refine .inl ⟨hstop rfl, fin ys F' H' vs R' sF ha' fa' e3 rs ap ?_⟩
    rw [List.drop_length] at hc
    simpa [compR] using hc
structure CpOk (N : List Str) (sc : Scope) (own : List Str) (caps : List Nat) (osc : Scope) (N' : List Str) : Prop where
  kind : sc.kind = .function
  nd : N'.Nodup
  snd : (sc.names.map (·.1)).Nodup
  free : ∀ p ∈ sc.names, p.2 = .free → osc.names.lookup p.1 = some .cell ∨ osc.names.lookup p.1 = some .free
  names : N' = own ++ caps.map fun j => N.getD j ""
  caps : ∀ j ∈ caps, j < N.length ∧ sc.names.lookup (N.getD j "") = some .free
theorem CpOk.cs (h : CpOk X.N sc own caps X.env.scope N') : CpScope X.N sc own caps X.env N' := ⟨h.kind, h.nd, h.snd, h.free, h.names, h.caps⟩
theorem qf_comp (S : CpOk X.N sc own caps X.env.scope N') (hc : X.calm = true) (hi : QIc X F0 H0 tg iter ti)
    (hg : ∀ C s₀ H₀ fp F0 H0, QG (blk X sc N' C s₀ H₀ fp) F0 H0 tg g) (ht : ∀ C s₀ H₀ fp F0 H0, QTs (blk X sc N' C s₀ H₀ fp) F0 H0 ifs tc) (he : ∀ C s₀ H₀ fp F0 H0, QE (blk X sc N' C s₀ H₀ fp) F0 H0 elt te)
    {n : Nat} (hn : own.length = n := by rfl) (hs : ∀ x, foldedSetIterable iter X.env x = pure x := by intro _; rfl) : QF X F0 H0 (.ListComp elt [⟨tg, iter, ifs, 0⟩] sc pos) (fComp n caps ti g tc te) := by
  subst hn
  intro z E cx pins s σ H Q I ⟨F, Γ, P, R, h, k⟩
  rw [show eval (.ListComp elt [⟨tg, iter, ifs, 0⟩] sc pos) (X.wsh z).env = comprehension (.ListComp elt [⟨tg, iter, ifs, 0⟩] sc pos) sc X.env _ (newList []) false (eval iter X.env) from eval_ListComp ..]
  refine comp_core (X := X.wsh z) (g := gX X.K g) (tc := tX X.K tc) (te := eX X.K te) (Q := Q) (CpOk.cs (X := X.wsh z) S) hc (hi z E cx) ?_ ?_ ?_ rfl hs I ?_ ?_
  · intro C s₀ H₀ fp pins s σ H v u Q I r ⟨F0', H0', q⟩
    exact hg C s₀ H₀ fp F0' H0' ⟨fun _ _ => False, []⟩ noX ctx_never pins s σ H v u Q I r q
  · intro C s₀ H₀ fp pins s σ H Q I ⟨F0', H0', q⟩
    exact ht C s₀ H₀ fp F0' H0' ⟨fun _ _ => False, []⟩ noX ctx_never pins s σ H Q I q
  · intro C s₀ H₀ fp pins s σ H Q I ⟨F0', H0', q⟩
    exact he C s₀ H₀ fp F0' H0' ⟨fun _ _ => False, []⟩ noX ctx_never pins s σ H Q I q
  · exact ⟨F, Γ, _, R, h, fun ds Γ1 F1 H1 J Hx R1 s1 hx hJ h1 acc ha => comp_word R1 hJ hx ha h1 fun ys F' H' vs R' sF a1 a2 a3 rs ap hp => k ys Γ1 F' H' acc vs R' (s1.trans sF) a1 a2 a3 rs ap hp⟩
  · intro acc C H' s5 I5 q5 ⟨m, hn⟩ c1 c2 c3 c4 c5 c6
    exact ⟨m, hn, fun h' hs' => ⟨.ref acc, H', I5.turned (t' := s5.toks) (it := C) (fun b o hb e => (hs'.2 b hb).trans e) c1 c2 (.inr c3) c4 c5, rfl, q5⟩⟩
theorem qs_setC {i : Nat} {y : Str} {py spos : Pos} (hN : X.N.Nodup) (hi' : X.N[i]? = some y) (hy : X.env.scope.names.lookup y = some .local) (S : CpOk X.N sc own caps X.env.scope N') (hc : X.calm = true) (hi : QIc X F0 H0 tg iter ti)
    (hg : ∀ C s₀ H₀ fp F0 H0, QG (blk X sc N' C s₀ H₀ fp) F0 H0 tg g) (ht : ∀ C s₀ H₀ fp F0 H0, QTs (blk X sc N' C s₀ H₀ fp) F0 H0 ifs tc) (he : ∀ C s₀ H₀ fp F0 H0, QE (blk X sc N' C s₀ H₀ fp) F0 H0 elt te)
    {n : Nat} (hn : own.length = n := by rfl) (hsw : swapsWith (.ListComp elt [⟨tg, iter, ifs, 0⟩] sc pos) (some (.Name y py)) spos.line X.env = pure true := by rfl) (hs : ∀ x, foldedSetIterable iter X.env x = pure x := by intro _; rfl) :
    QS X F0 H0 (.Assign [.Name y py] (.ListComp elt [⟨tg, iter, ifs, 0⟩] sc pos) spos) (cSetF i (fComp n caps ti g tc te)) := by
  subst hn
  intro z E cx pins s σ H Dn I ⟨F, Γ, D2, R, h, k⟩
  show wpAny _ _ (exec (.Assign [.Name y py] (.ListComp elt [⟨tg, iter, ifs, 0⟩] sc pos) spos) X.env) _ _ _
  rw [exec_Assign_Name_used _ _ _ _ hsw]
  refine wpAny_bind (wpAny_standAt (wpAny_bind ?_))
  show wpAny _ _ (do let _ ← comprehension (.ListComp elt [⟨tg, iter, ifs, 0⟩] sc pos) sc X.env _ (newList []) false (eval iter X.env) (some (assign (.Name y py) X.env))) _ _ s
  refine wpAny_bind (wpAny_mono (comp_core (X := X.wsh z) (use := some (assign (.Name y py) X.env)) (Qv := fun _ s' => SP (X.wsh z) pins Dn .next s') (g := gX X.K g) (tc := tX X.K tc) (te := eX X.K te) (Q := fun v H' => Dn.nx (σ.set i (some v)) H') (CpOk.cs (X := X.wsh z) S) hc (hi z E cx) ?_ ?_ ?_ rfl hs I ?_ ?_) (fun _ s' hq => wpAny_pure (wpAny_pure hq)) fun _ _ e => e)
  · intro C s₀ H₀ fp pins s σ H v u Q I r ⟨F0', H0', q⟩
    exact hg C s₀ H₀ fp F0' H0' ⟨fun _ _ => False, []⟩ noX ctx_never pins s σ H v u Q I r q
  · intro C s₀ H₀ fp pins s σ H Q I ⟨F0', H0', q⟩
    exact ht C s₀ H₀ fp F0' H0' ⟨fun _ _ => False, []⟩ noX ctx_never pins s σ H Q I q
  · intro C s₀ H₀ fp pins s σ H Q I ⟨F0', H0', q⟩
    exact he C s₀ H₀ fp F0' H0' ⟨fun _ _ => False, []⟩ noX ctx_never pins s σ H Q I q
  · exact ⟨F, Γ, _, R, h, fun ds Γ1 F1 H1 J Hx R1 s1 hx hJ h1 acc ha => comp_word R1 hJ hx ha h1 fun ys F' H' vs R' sF a1 a2 a3 rs ap hp => k.nx _ _ _ _ (R'.setOw i a1 a2 a3 rs ap) (s1.trans sF) hp⟩
  · intro acc C H' s5 I5 q5 ⟨m, hn⟩ c1 c2 c3 c4 c5 c6
    show wpAny _ _ (assign (.Name y py) X.env (.ref acc)) _ _ _
    refine wpAny_assign_Name (store_ok2 (X := X.wsh z) I5 hN hi' (.inl hy) (v := .ref acc) rfl (fun s6 I6 ⟨a, hsb, ha⟩ => ?_) (.inr hy))
    have ha' : a = X.env.locals ∨ X.env.cells.lookup y = some a := ha
    have hac : C ≠ a := by
      rcases ha' with rfl | ha'
      · exact c2
      · exact fun z => c4 y a ha' z.symm
    refine ⟨m, hn.sameBut hsb hac, fun h' hs' => ⟨_, H', I6.turned (t' := s6.toks) (it := C) (fun b o hb e => (hs'.2 b hb).trans e) c1 c2 (.inr c3) c4 c5, q5⟩⟩
end
end L3

namespace L3
open PySem PySem.Spec PyProof.Rows L2

def rUpN (K : PySem.W.Frag) (g : List D → (List D → Prop) → Prop) : List V → Hp → VK → Prop := fun vs H Q => ∃ F ds P, Same F H ∧ Reps K F ds vs ∧ g ds P ∧ ∀ es us l, Reps K F es us → H l = none → P es → Q (.ref l) (upd H l (.lst us))
section
variable {X : Cx} {F0 H0 : Hp} {a b e : Expr} {es : List Expr} {pos p p2 : Pos} {ta tb te : TE2} {t : TF2} {x : Str}
def fCB (g : List D → (List D → Prop) → Prop) (t : TF2) : TF2 := fun Γ P E => t Γ (fun ds Γ1 => g ds fun es => P es Γ1) E
theorem fCB_up {K : PySem.W.Frag} {g : List D → (List D → Prop) → Prop} {E : XW} {σ : St} {H : Hp} {Q : VK} (h : upF K F0 H0 (fCB g t) E σ H Q) : tCB (rUpN K g) (upA K F0 H0 t E) σ H Q := by
  obtain ⟨F, Γ, P, R, h, k⟩ := h
  refine ⟨F, Γ, _, R, h, fun ds Γ1 F1 H1 vs R1 s1 r1 h1 => ⟨F1, ds, _, R1.g, r1, h1, fun es us l r hl hp => ?_⟩⟩
  obtain ⟨R2, e1, e2, e3, ap⟩ := new_lst R1 hl r
  exact k es Γ1 F1 _ l us R2 s1 e1 e2 e3 r ap hp
theorem qf_callT {T : String} {g : List D → (List D → Prop) → Prop} (hc : ∀ z, CallR (X.wsh z) (.type T) (rUpN X.K g)) (hg : Gl X x) (hm : X.mg x = none) (hv : bootBuiltins x = some (.type T)) (ha : QA X F0 H0 (e :: es) t) (hn : x ≠ "__name__" := by decide) (hdb : (x == ("__debug__" : Str)) = false := by decide)
    (he : starEach (e :: es) X.env = (false, eval e X.env) :: starEach es X.env := by rfl) (hpl : (backTo pos (starEach es X.env)).any (·.1) = false := by rfl) : QF X F0 H0 (.Call (.Name x p) (e :: es) [] pos) (fCB g t) := fun z E cx =>
  peC (pe_callTy (X := X.wsh z) (hc z) hg hm hv (ha z E cx) hn hdb he hpl) fun _ _ _ h => fCB_up h
theorem qe_callT {T : String} {g : List D → (D → Prop) → Prop} (hc : ∀ z, CallR (X.wsh z) (.type T) (rUpA X.K g)) (hg : Gl X x) (hm : X.mg x = none) (hv : bootBuiltins x = some (.type T)) (ha : QA X F0 H0 (e :: es) t) (hn : x ≠ "__name__" := by decide) (hdb : (x == ("__debug__" : Str)) = false := by decide)
    (he : starEach (e :: es) X.env = (false, eval e X.env) :: starEach es X.env := by rfl) (hpl : (backTo pos (starEach es X.env)).any (·.1) = false := by rfl) : QE X F0 H0 (.Call (.Name x p) (e :: es) [] pos) (cCB g t) := fun z E cx =>
  peC (pe_callTy (X := X.wsh z) (hc z) hg hm hv (ha z E cx) hn hdb he hpl) fun _ _ _ h => cCB_up h
end

def n_list : List D → (List D → Prop) → Prop := fun ds P => match ds with | [.lst xs] => P xs | [.tup xs] => P xs | _ => False
theorem q_list {X : Cx} : CallR X (.type "list") (rUpN X.K n_list) := by
  intro pins s σ H xs us Q I r ⟨F, ds, P, sF, rs, h, k⟩
  unfold n_list at h
  split at h
  · unfold Reps Reps Rep at rs
    obtain ⟨v, _, rfl, ⟨p, vs, rfl, hq, rs⟩, rfl⟩ := rs
    exact call_list_of pins s σ H _ us Q I r ⟨p, vs, rfl, .inl (sF.seq hq), fun l hl => k _ _ l rs hl h⟩
  · unfold Reps Reps Rep at rs
    obtain ⟨v, _, rfl, ⟨p, vs, rfl, hq, rs⟩, rfl⟩ := rs
    exact call_list_of pins s σ H _ us Q I r ⟨p, vs, rfl, .inr (sqT_mono sF hq), fun l hl => k _ _ l rs hl h⟩
  · exact h.elim
def u_tuple : List D → (D → Prop) → Prop := fun ds P => match ds with | [.lst xs] => P (.tup xs) | [.tup xs] => P (.tup xs) | _ => False
def cutD (xs : List D) (lo hi : Option Int) : List D := (xs.drop (HT.sIx xs.length 0 lo)).take (HT.sIx xs.length xs.length hi - HT.sIx xs.length 0 lo)
theorem reps_cut {K : PySem.W.Frag} {F : Hp} {ds : List D} {vs : List V} (r : Reps K F ds vs) (lo hi : Option Int) : Reps K F (cutD ds lo hi) (cutV vs lo hi) := by
  unfold cutD cutV
  rw [reps_len r]
  exact reps_take _ (reps_drop _ r)
abbrev TO2 := G2 → (Option Int → G2 → Prop) → XW → Prop
def upO (K : PySem.W.Frag) (F0 H0 : Hp) (t : TO2) (E : XW) : TO := fun σ H Q => ∃ F Γ P, SR K F0 H0 F H σ Γ ∧ t Γ P E ∧ ∀ o Γ' F' H', SR K F0 H0 F' H' σ Γ' → Same F F' → P o Γ' → Q o H'
def QO (X : Cx) (F0 H0 : Hp) (e : Option Expr) (t : TO2) : Prop := ∀ z E, Ctx (X.wsh z) F0 H0 E → PO (X.wsh z) e (upO X.K F0 H0 t E)
theorem poC {X : Cx} {e : Option Expr} {t t' : TO} (h : PO X e t) (hi : ∀ σ H Q, t' σ H Q → t σ H Q) : PO X e t' := fun pins s σ H Q I q => h pins s σ H Q I (hi _ _ _ q)
def oNo : TO2 := fun Γ P _ => P none Γ
def oIs (te : TE2) : TO2 := fun Γ P E => te Γ (fun d Γ1 => match d with | .int i => P (some i) Γ1 | _ => False) E
section
variable {X : Cx} {F0 H0 : Hp} {a b e : Expr} {es : List Expr} {pos p p2 : Pos} {ta tb te : TE2} {t : TF2} {x : Str} {lo hi : Option Expr} {tl th : TO2}
theorem qo_no : QO X F0 H0 none oNo := fun z E cx => poC po_none fun σ H Q ⟨F, Γ, P, R, h, k⟩ => k _ _ _ _ R (.refl _) h
theorem qo_is (h : QE X F0 H0 e te) : QO X F0 H0 (some e) (oIs te) := fun z E cx => poC (po_some (h z E cx)) fun σ H Q ⟨F, Γ, P, R, h, k⟩ => ⟨F, Γ, _, R, h, fun d Γ1 F1 H1 v R1 s1 r q => by
  cases d with
  | int i => unfold Rep at r; exact ⟨i, r, k _ _ _ _ R1 s1 q⟩
  | _ => exact False.elim q⟩
def fSl (te : TE2) (tl th : TO2) : TF2 := fun Γ P E => te Γ (fun d Γ1 => tl Γ1 (fun l Γ2 => th Γ2 (fun u Γ3 => match d with | .lst xs => P (cutD xs l u) Γ3 | _ => False) E) E) E
theorem qf_slice (he : QE X F0 H0 e te) (hl : QO X F0 H0 lo tl) (hh : QO X F0 H0 hi th) : QF X F0 H0 (.Subscript e (.Slice lo hi none p2) pos) (fSl te tl th) := fun z E cx =>
  peC (pe_slice sl_list (he z E cx) (hl z E cx) (hh z E cx)) fun σ H Q ⟨F, Γ, P, R, h, k⟩ => ⟨F, Γ, _, R, h, fun d Γ1 F1 H1 v R1 s1 r1 h1 => ⟨F1, Γ1, _, R1, h1, fun l Γ2 F2 H2 R2 s2 h2 => ⟨F2, Γ2, _, R2, h2, fun u Γ3 F3 H3 R3 s3 h3 => by
    cases d with
    | lst xs =>
      have r3 := r1.up (s2.trans s3)
      unfold Rep at r3
      obtain ⟨a, vs, rfl, hq, rs⟩ := r3
      refine ⟨a, vs, rfl, R3.g.seq hq, fun p hp => ?_⟩
      have rc := reps_cut rs l u
      obtain ⟨R4, e1, e2, e3, ap⟩ := new_lst R3 hp rc
      exact k _ Γ3 F3 _ p _ R4 (s1.trans (s2.trans s3)) e1 e2 e3 rc ap h3
    | _ => exact False.elim h3⟩⟩⟩
def fRev (te : TE2) : TF2 := fun Γ P E => te Γ (fun d Γ1 => match d with | .lst xs => P xs.reverse Γ1 | _ => False) E
theorem reps_rev {K : PySem.W.Frag} {F : Hp} : ∀ {ds : List D} {vs : List V}, Reps K F ds vs → Reps K F ds.reverse vs.reverse
  | [], _, h => by unfold Reps at h; subst h; unfold Reps; rfl
  | d :: ds, _, h => by
    unfold Reps at h
    obtain ⟨v, r, rfl, h1, h2⟩ := h
    rw [List.reverse_cons, List.reverse_cons]
    exact reps_app (reps_rev h2) (reps_one h1)
theorem qf_rev {k1} {p3 p4 : Pos} (he : QE X F0 H0 e te) : QF X F0 H0 (.Subscript e (.Slice none none (some (.UnaryOp .USub (.Constant (.int 1) k1 p3) p4)) p2) pos) (fRev te) := fun z E cx => by
  intro pins s σ H Q I ⟨F, Γ, P, R, h, k⟩
  refine Subscript_ (thn (he z E cx pins s σ H (fun v H1 => ∃ F1 Γ1 d, SR X.K F0 H0 F1 H1 σ Γ1 ∧ Same F F1 ∧ Rep X.K F1 d v ∧ (match d with | .lst xs => P xs.reverse Γ1 | _ => False)) I ⟨F, Γ, _, R, h, fun d Γ1 F1 H1 v R1 s1 r1 h1 => ⟨F1, Γ1, d, R1, s1, r1, h1⟩⟩) fun v s1 ⟨x, H1, I1, r1, F1, Γ1, d, R1, sF, rd, q1⟩ => ?_)
  cases d with
  | lst xs =>
    unfold Rep at rd
    obtain ⟨a, vs, rfl, hq, rs⟩ := rd
    cases r1
    refine wpAny_Slice ?_
    rw [evalPart_none]
    refine wpAny_pure (wpAny_pure ?_)
    rw [evalPart_some]
    refine thn (pe_un (X := X.wsh z) un_neg pe_int pins s1 σ H1 (fun v H' => v = .int (-1) ∧ H' = H1) I1 ⟨1, rfl, rfl, rfl⟩) fun u s2 ⟨y, H2, I2, r2, hy, hH⟩ => ?_
    rw [hy] at r2
    rw [hH] at I2
    obtain ⟨t, rfl⟩ := r2
    have I4 : Inv (X.wsh z) pins σ H1 { s2 with heap := s2.heap.push { cls := .type "slice", data := .fields #[.none, .none, .int (-1) t] } } := I2.kept (t' := s2.toks) fun b ob q => Heap.get?_push_of_some _ q
    obtain ⟨its, r, ht, hz⟩ := I4.list (R1.g.seq hq)
    have hlen := r.length
    refine tail_any (T := "list") (ops := [.ref a, .ref s2.heap.objs.size]) ht.isList.typeIs slot_list_getitem.lookup ?_ (by with_unfolding_all rfl)
    refine wpAny_getItem_list_slice ht.isList (Heap.IsSliceOf.new ..) .none .none (.int (-1) t) (by simp) ?_ (by rw [List.size_toArray]; omega)
    rw [PySem.W.krv_pick]
    have rr := reps_rev rs
    have hf := I4.fresh
    obtain ⟨R4, e1, e2, e3, ap⟩ := new_lst R1 hf rr
    refine ⟨.ref _, _, I4.laid (t' := s2.toks) (o := .lst vs.reverse) (fun b ob q => Heap.get?_push_of_some _ q) (Nat.le_refl _) ?_, rfl, k _ Γ1 F1 _ _ _ R4 sF e1 e2 e3 rr ap q1⟩
    exact ⟨by rw [List.length_reverse]; exact hz, _, 0, r.reverse, Heap.get?_push_size _ rfl⟩
  | _ => exact False.elim q1
end

section
variable {X : Cx}
theorem toI {A : Around} (h : A.handled = none) : A.in1.handled = none := h
theorem ep_after {pins : List (Addr × Obj)} {σ : St} {H : Hp} {s : Shared} {h' : Heap} {tk : Nat} {Q : VK} {v : V} {u : Value} (I : Inv X pins σ H s) (k : ∀ b o, s.heap.get? b = some o → h'.get? b = some o) (r : RelV v u) (q : Q v H) : EP X pins σ Q u { s with heap := h', toks := tk } := ⟨v, H, I.kept k, r, q⟩
def intsD : List D → Option (List Int)
  | [] => some []
  | .int i :: r => (intsD r).map (i :: ·)
  | _ :: _ => none
def blsD : List D → Option (List Bool)
  | [] => some []
  | .bl i :: r => (blsD r).map (i :: ·)
  | _ :: _ => none
theorem ints_vals {K : PySem.W.Frag} {F : Hp} : ∀ {ds : List D} {vs : List V} {ns : List Int}, Reps K F ds vs → intsD ds = some ns → vs = ns.map .int
  | [], vs, ns, r, h => by unfold Reps at r; cases h; subst r; rfl
  | .int i :: ds, vs, ns, r, h => by
    unfold Reps Rep at r
    obtain ⟨v, us, rfl, rfl, r⟩ := r
    unfold intsD at h
    cases q : intsD ds with
    | none => rw [q] at h; cases h
    | some ms =>
      rw [q] at h; cases h
      rw [ints_vals r q]; rfl
  | .non :: _, _, _, _, h => by cases h
  | .bl _ :: _, _, _, _, h => by cases h
  | .str _ :: _, _, _, _, h => by cases h
  | .tup _ :: _, _, _, _, h => by cases h
  | .lst _ :: _, _, _, _, h => by cases h
  | .exc _ :: _, _, _, _, h => by cases h
  | .ptr _ :: _, _, _, _, h => by cases h
  | .obj _ _ _ :: _, _, _, _, h => by cases h
  | .dic _ _ :: _, _, _, _, h => by cases h
  | .dit _ _ :: _, _, _, _, h => by cases h
theorem bls_vals {K : PySem.W.Frag} {F : Hp} : ∀ {ds : List D} {vs : List V} {ns : List Bool}, Reps K F ds vs → blsD ds = some ns → vs = ns.map .bl
  | [], vs, ns, r, h => by unfold Reps at r; cases h; subst r; rfl
  | .bl i :: ds, vs, ns, r, h => by
    unfold Reps Rep at r
    obtain ⟨v, us, rfl, rfl, r⟩ := r
    unfold blsD at h
    cases q : blsD ds with
    | none => rw [q] at h; cases h
    | some ms =>
      rw [q] at h; cases h
      rw [bls_vals r q]; rfl
  | .non :: _, _, _, _, h => by cases h
  | .int _ :: _, _, _, _, h => by cases h
  | .str _ :: _, _, _, _, h => by cases h
  | .tup _ :: _, _, _, _, h => by cases h
  | .lst _ :: _, _, _, _, h => by cases h
  | .exc _ :: _, _, _, _, h => by cases h
  | .ptr _ :: _, _, _, _, h => by cases h
  | .obj _ _ _ :: _, _, _, _, h => by cases h
  | .dic _ _ :: _, _, _, _, h => by cases h
  | .dit _ _ :: _, _, _, _, h => by cases h
def u_sum : List D → (D → Prop) → Prop := fun ds P => match ds with | [.lst xs] => ∃ ns, intsD xs = some ns ∧ P (.int ns.sum) | _ => False
theorem lw_start {h : Heap} {p : Addr} {its : Array Value} (pl : PlainL h p its) : (h.push { cls := .type "list_iterator", data := .fields #[.ref p, rawInt 0] }).IsListIter h.objs.size p 0 ∧ (h.push { cls := .type "list_iterator", data := .fields #[.ref p, rawInt 0] }).IsList p its := by
  refine ⟨⟨_, Heap.get?_push_size _ rfl, rfl, rfl⟩, ?_⟩
  obtain ⟨o, n, e, hcl, _, hd⟩ := pl
  exact ⟨o, Heap.get?_push_of_some _ e, hcl, n, hd⟩
theorem any_range (bs : List Bool) : (List.range bs.length).any (fun i => bs.getD i false) = bs.any id := by
  rw [Bool.eq_iff_iff]
  simp only [List.any_eq_true, List.mem_range, id]
  constructor
  · rintro ⟨i, hi, e⟩
    rw [List.getD_eq_getElem?_getD, List.getElem?_eq_getElem hi] at e
    exact ⟨_, List.getElem_mem hi, e⟩
  · rintro ⟨b, hb, e⟩
    obtain ⟨i, hi, rfl⟩ := List.mem_iff_getElem.mp hb
    exact ⟨i, hi, by rw [List.getD_eq_getElem?_getD, List.getElem?_eq_getElem hi]; exact e⟩
def u_any : List D → (D → Prop) → Prop := fun ds P => match ds with | [.lst xs] => ∃ bs, blsD xs = some bs ∧ P (.bl (bs.any id)) | _ => False
def u_all : List D → (D → Prop) → Prop := fun ds P => match ds with | [.lst xs] => ∃ bs, blsD xs = some bs ∧ P (.bl (bs.all id)) | _ => False
theorem bls_at {bs : List Bool} {its : List Value} (rv : Vals (bs.map .bl) its) {i : Nat} {v : Value} (hv : its.toArray[i]? = some v) : v = .bool (bs.getD i false) := by
  have hl := rv.length
  rw [List.length_map] at hl
  have hv' : its[i]? = some v := by simpa using hv
  have hi : i < bs.length := by
    have := (List.getElem?_eq_some_iff.mp hv').1
    omega
  obtain ⟨u, hu, ru⟩ := rv.get (i := i) (x := .bl (bs.getD i false)) (by rw [List.getElem?_map, List.getD_eq_getElem?_getD, List.getElem?_eq_getElem hi]; rfl)
  rw [hv'] at hu; cases hu
  exact ru
theorem ints_at {ns : List Int} {its : List Value} (rv : Vals (ns.map .int) its) {i : Nat} {v : Value} (hv : its.toArray[i]? = some v) : i < ns.length ∧ ∃ t, v = .int (ns.getD i 0) t := by
  have hl := rv.length
  rw [List.length_map] at hl
  have hv' : its[i]? = some v := by simpa using hv
  have hi : i < ns.length := by
    have := (List.getElem?_eq_some_iff.mp hv').1
    omega
  obtain ⟨u, hu, ru⟩ := rv.get (i := i) (x := .int (ns.getD i 0)) (by rw [List.getElem?_map, List.getD_eq_getElem?_getD, List.getElem?_eq_getElem hi]; rfl)
  rw [hv'] at hu; cases hu
  exact ⟨hi, ru⟩
theorem q_any (hc : X.calm = true) : CallR X (.builtin "any") (rUpA X.K u_any) := by
  intro pins s σ H xs us Q I r ⟨F, ds, P, sF, rs, h, k⟩
  unfold u_any at h
  split at h
  · unfold Reps Reps Rep at rs
    obtain ⟨v, _, rfl, ⟨p, vs, rfl, hq, rs⟩, rfl⟩ := rs
    obtain ⟨bs, hbs, h⟩ := h
    obtain rfl := bls_vals rs hbs
    obtain ⟨u, rfl, rx⟩ := vals1 r
    cases rx
    obtain ⟨its, rv, pl, hz⟩ := I.list (sF.seq hq)
    have hl := rv.length
    rw [List.length_map] at hl
    refine call_any_walk (wpAny_pyIter_list pl.isList ?_)
    have plt : p < s.heap.objs.size := by obtain ⟨o, n, e, _⟩ := pl; exact Heap.lt_size e
    refine ⟨s.heap.objs.size, _, _, _, _, _, fun i => bs.getD i false, rfl, Walks.list (toI (I.ok.hd hc)) s.heap.objs.size p (Nat.ne_of_lt plt) its.toArray, lw_start pl, fun i v s' Q' E' hv hQ => ?_, fun h' tk kp => ?_⟩
    · rw [bls_at rv hv]
      exact wpAny_truthy_bool hQ
    · rw [show its.toArray.size = bs.length by simp [hl], any_range]
      refine ep_after (s := s) (v := .bl (bs.any id)) I (fun b o e => kp b o (fun z => ?_) (Heap.get?_push_of_some _ e)) rfl (k _ _ F H (Gr.refl sF) (by unfold Rep; rfl) h)
      rcases List.mem_cons.mp z with rfl | z
      · exact absurd (Heap.lt_size e) (Nat.lt_irrefl _)
      · cases z
  · exact h.elim
theorem best_max (ns : List Int) : ∀ k, k < ns.length → ∃ i, i ≤ k ∧ PySem.argBest (fun i j => decide (ns.getD i 0 > ns.getD j 0)) k = i ∧ ∀ j, j ≤ k → ns.getD j 0 ≤ ns.getD i 0
  | 0, _ => ⟨0, Nat.le_refl _, rfl, fun j hj => by obtain rfl : j = 0 := (by omega); exact Int.le_refl _⟩
  | k + 1, hk => by
    obtain ⟨i, h1, h2, h3⟩ := best_max ns k (by omega)
    unfold PySem.argBest
    rw [h2]
    by_cases hg : ns.getD (k + 1) 0 > ns.getD i 0
    · rw [if_pos (by simpa using hg)]
      refine ⟨k + 1, Nat.le_refl _, rfl, fun j hj => ?_⟩
      by_cases hjk : j = k + 1
      · subst hjk; exact Int.le_refl _
      · have := h3 j (by omega); omega
    · rw [if_neg (by simpa using hg)]
      refine ⟨i, by omega, rfl, fun j hj => ?_⟩
      by_cases hjk : j = k + 1
      · subst hjk; omega
      · exact h3 j (by omega)
def u_maxL : List D → (D → Prop) → Prop := fun ds P => match ds with | [.lst xs] => ∃ ns m, intsD xs = some ns ∧ m ∈ ns ∧ (∀ i ∈ ns, i ≤ m) ∧ P (.int m) | _ => False
def u_minL : List D → (D → Prop) → Prop := fun ds P => match ds with | [.lst xs] => ∃ ns m, intsD xs = some ns ∧ m ∈ ns ∧ (∀ i ∈ ns, m ≤ i) ∧ P (.int m) | _ => False
theorem getD_mem {ns : List Int} {i : Nat} (h : i < ns.length) : ns.getD i 0 ∈ ns := by
  rw [List.getD_eq_getElem?_getD, List.getElem?_eq_getElem h]; exact List.getElem_mem h
theorem mem_getD {ns : List Int} {m : Int} (h : m ∈ ns) : ∃ i, i < ns.length ∧ ns.getD i 0 = m := by
  obtain ⟨i, hi, rfl⟩ := List.mem_iff_getElem.mp h
  exact ⟨i, hi, by rw [List.getD_eq_getElem?_getD, List.getElem?_eq_getElem hi]; rfl⟩
theorem q_maxL (hc : X.calm = true) : CallR X (.builtin "max") (rUpA X.K u_maxL) := by
  intro pins s σ H xs us Q I r ⟨F, ds, P, sF, rs, h, k⟩
  unfold u_maxL at h
  split at h
  · unfold Reps Reps Rep at rs
    obtain ⟨v, _, rfl, ⟨p, vs, rfl, hq, rs⟩, rfl⟩ := rs
    obtain ⟨ns, m, hns, hm, hmx, h⟩ := h
    obtain rfl := ints_vals rs hns
    obtain ⟨u, rfl, rx⟩ := vals1 r
    cases rx
    obtain ⟨its, rv, pl, hz⟩ := I.list (sF.seq hq)
    have hl := rv.length
    rw [List.length_map] at hl
    have pos : 0 < ns.length := List.length_pos_of_mem hm
    refine call_max_walk (wpAny_pyIter_list pl.isList ?_)
    have plt : p < s.heap.objs.size := by obtain ⟨o, n, e, _⟩ := pl; exact Heap.lt_size e
    refine ⟨s.heap.objs.size, _, _, _, _, _, _, rfl, Walks.list (toI (I.ok.hd hc)) s.heap.objs.size p (Nat.ne_of_lt plt) its.toArray, lw_start pl, ?_, by simp; omega, CmpOf.ints_gt (fun i => ns.getD i 0) (fun i v hv => (ints_at rv hv).2), fun v h' tk hv kp => ?_⟩
    · intro b hb
      rw [Heap.size_push]
      rcases List.mem_cons.mp hb with rfl | hb
      · exact Nat.lt_succ_self _
      · rcases List.mem_cons.mp hb with rfl | hb
        · exact Nat.lt_succ_of_lt plt
        · cases hb
    · obtain ⟨hi, t, rfl⟩ := ints_at rv hv
      obtain ⟨i, b1, b2, b3⟩ := best_max ns (its.toArray.size - 1) (by simp; omega)
      have e : ns.getD (PySem.argBest (fun i j => decide (ns.getD i 0 > ns.getD j 0)) (its.toArray.size - 1)) 0 = m := by
        rw [b2]
        obtain ⟨j, hj, ej⟩ := mem_getD hm
        have q1 := b3 j (by simp; omega)
        have q2 := hmx _ (getD_mem (ns := ns) (i := i) (by simp at b1; omega))
        omega
      rw [e]
      refine ep_after (s := s) (v := .int m) I (fun b o e => kp b o (fun z => ?_) (Heap.get?_push_of_some _ e)) ⟨t, rfl⟩ (k _ _ F H (Gr.refl sF) (by unfold Rep; rfl) h)
      rcases List.mem_cons.mp z with rfl | z
      · exact absurd (Heap.lt_size e) (Nat.lt_irrefl _)
      · cases z
  · exact h.elim
end
end L3

namespace L3
open PySem PySem.Spec PyProof.Rows L2

def frzS : Slot → Slot | .ow ds => .pu (.lst ds) | .tr _ t => .pu (toD t) | s => s
def frzG (Γ : G2) : G2 := Γ.map frzS
def OwnA (Γ : G2) (σ : St) (b : Addr) : Prop := ∃ j, OwnAt Γ σ j b
open Classical in
theorem sr_peek2 {K : PySem.W.Frag} {F0 H0 F H : Hp} {σ : St} {Γ : G2} (R : SR K F0 H0 F H σ Γ) : ∃ F1, Same F F1 ∧ SR K F1 H F1 H σ (frzG Γ) ∧ (∀ b, F b = none → ¬ OwnA Γ σ b → F1 b = none) ∧ ∀ b, OwnA Γ σ b → F b = none ∧ ∃ u, F1 b = some u ∧ LD u := by
  let F1 : Hp := fun b => if (F b).isSome then F b else if OwnA Γ σ b then H b else none
  have s1 : Same F F1 := fun b u e => by show (if _ then _ else _) = _; rw [if_pos (by rw [e]; rfl)]; exact e
  have s2 : Same F1 H := fun b u e => by
    have e' : (if (F b).isSome then F b else if OwnA Γ σ b then H b else none) = some u := e
    split at e'
    · exact R.g b u e'
    · split at e'
      · exact e'
      · cases e'
  have at1 : ∀ b u, F b = none → OwnA Γ σ b → H b = some u → F1 b = some u := fun b u h1 h2 h3 => by
    show (if (F b).isSome then F b else if OwnA Γ σ b then H b else none) = _
    rw [if_neg (by rw [h1]; exact Bool.false_ne_true), if_pos h2]
    exact h3
  have noow : ∀ (i : Nat) s o a, (frzG Γ)[i]? = some s → ¬ Own1 s o a := fun i s o a e => by
    unfold frzG at e
    rw [List.getElem?_map] at e
    cases q : Γ[i]? with
    | none => rw [q] at e; cases e
    | some t =>
      rw [q] at e
      cases t <;> (cases e; exact fun h => h)
  have own : ∀ b, OwnA Γ σ b → F b = none ∧ ∃ u, F1 b = some u ∧ LD u := fun b hb => by
    obtain ⟨j, s, o, e1, e2, hs⟩ := id hb
    obtain ⟨o', e3, r⟩ := R.sl j _ e1
    rw [e2] at e3; cases e3
    obtain ⟨h1, _, u, h2, ld⟩ := own1_of r hs
    exact ⟨h1, u, at1 _ _ h1 hb h2, ld⟩
  refine ⟨F1, s1, ⟨Gr.refl s2, by rw [frzG, List.length_map]; exact R.len, fun i s e => ?_, fun i j a ⟨s, o, e, _, h⟩ => absurd h (noow i s o a e)⟩, fun b hb hn => ?_, own⟩
  · unfold frzG at e
    rw [List.getElem?_map] at e
    cases q : Γ[i]? with
    | none => rw [q] at e; cases e
    | some sl =>
      rw [q] at e
      obtain ⟨o, e1, r⟩ := R.sl i sl q
      refine ⟨o, e1, ?_⟩
      have mine : ∀ b u, Own1 sl o b → H b = some u → F1 b = some u := fun b u hb hu => at1 b u (own1_of r hb).1 ⟨i, sl, o, q, e1, hb⟩ hu
      cases sl with
      | no => cases e; trivial
      | pu d => cases e; obtain ⟨v, rfl, rv⟩ := r; exact ⟨v, rfl, rv.up s1⟩
      | ow ds =>
        cases e
        obtain ⟨a, vs, rfl, h1, h2, h3, rs⟩ := r
        refine ⟨.ref a, rfl, ?_⟩
        unfold Rep
        exact ⟨a, vs, rfl, .inl (.inl (mine a _ rfl h1)), rs.up s1⟩
      | tr as t =>
        cases e
        obtain ⟨v, rfl, nd, h1, rv⟩ := r
        exact ⟨v, rfl, TR.rep s1 t v as (fun a ha u hu => mine a u ha hu) rv⟩
  · show (if (F b).isSome then F b else if OwnA Γ σ b then H b else none) = none
    rw [if_neg (by rw [hb]; exact Bool.false_ne_true), if_neg hn]
theorem sr_peek {K : PySem.W.Frag} {F0 H0 F H : Hp} {σ : St} {Γ : G2} (R : SR K F0 H0 F H σ Γ) : ∃ F1, Same F F1 ∧ SR K F1 H F1 H σ (frzG Γ) := by
  obtain ⟨F1, s1, R1, _⟩ := sr_peek2 R
  exact ⟨F1, s1, R1⟩
theorem sr_unpeek {K : PySem.W.Frag} {F0 H0 F H H' : Hp} {σ : St} {Γ : G2} (R : SR K F0 H0 F H σ Γ) (s : Same H H') : SR K F0 H0 F H' σ Γ := by
  refine R.grow ⟨.refl _, fun b u e => s b u (R.g b u e), s, fun b o e n => by rw [e] at n; cases n⟩
def scD : D → Prop | .non => True | .bl _ => True | .int _ => True | .str _ => True | _ => False
theorem sc_rep {K : PySem.W.Frag} {F F' : Hp} {d : D} {v : V} (h : scD d) (r : Rep K F d v) : Rep K F' d v := by
  cases d with
  | non => unfold Rep at r ⊢; exact r
  | bl => unfold Rep at r ⊢; exact r
  | int => unfold Rep at r ⊢; exact r
  | str => unfold Rep at r ⊢; exact r
  | _ => exact h.elim
def cPeek (te : TE2) : TE2 := fun Γ P _ => te (frzG Γ) (fun d _ => scD d ∧ P d Γ) noX
def cPeekT (t : TT2) : TT2 := fun Γ P _ => t (frzG Γ) (fun b _ => P b Γ) noX
section
variable {X : Cx} {F0 H0 : Hp} {e : Expr} {te : TE2} {tt : TT2}
theorem ctx_peek {E : XW} {F1 H1 : Hp} (cx : Ctx X F0 H0 E) : Ctx X F1 H1 noX :=
  ⟨fun _ _ _ _ _ _ _ _ _ _ h => by obtain ⟨_, _, _, _, _, _, _, _, _, _, _, _, h, _⟩ := h; exact h.elim, cx.po⟩
theorem qe_peek (h : ∀ F0 H0, QE X F0 H0 e te) : QE X F0 H0 e (cPeek te) := fun z E cx => by
  intro pins s σ H Q I ⟨F, Γ, P, R, q, k⟩
  obtain ⟨F1, s1, R1⟩ := sr_peek R
  exact h F1 H z noX (ctx_peek cx) pins s σ H Q I ⟨F1, frzG Γ, _, R1, q, fun d Γ' F' H' v R' s' r hp => k d Γ F H' v (sr_unpeek R R'.gr.h) (.refl _) (sc_rep hp.1 r) hp.2⟩
theorem qt_peek (h : ∀ F0 H0, QT X F0 H0 e tt) : QT X F0 H0 e (cPeekT tt) := fun z E cx => by
  intro pins s σ H Q I ⟨F, Γ, P, R, q, k⟩
  obtain ⟨F1, s1, R1⟩ := sr_peek R
  exact h F1 H z noX (ctx_peek cx) pins s σ H Q I ⟨F1, frzG Γ, _, R1, q, fun b Γ' F' H' R' s' hp => k b Γ F H' (sr_unpeek R R'.gr.h) (.refl _) hp⟩
def cIxO (i : Nat) (te : TE2) : TE2 := fun Γ P E => (∃ xs, Γ[i]? = some (.ow xs)) ∧ te Γ (fun k Γ1 => match k, Γ1[i]? with | .int k, some (.ow ds) => ∃ d, atI ds k = some d ∧ P d Γ1 | _, _ => False) E
theorem qe_ixO {i : Nat} {x : Str} {b : Expr} {pos pos' : Pos} (hN : X.N[i]? = some x) (hv : Vis X.env.scope x) (hb : QE X F0 H0 b te) (hs : PlainIx b) (hd : (x == ("__debug__" : Str)) = false := by decide) (hcd : (x == ("__classdict__" : Str)) = false := by decide) :
    QE X F0 H0 (.Subscript (.Name x pos') b pos) (cIxO i te) := fun z E cx =>
  peC (pe_ix ix_list (pe_var (X := X.wsh z) (i := i) hN hv hd hcd) (hb z E cx) hs) fun σ H Q ⟨F, Γ, P, R, ⟨⟨xs, e0⟩, h⟩, k⟩ => by
    obtain ⟨o, e1, a, vs, rfl, h1, h2, h3, r⟩ := R.sl i _ e0
    refine ⟨.ref a, e1, F, Γ, _, R, h, fun d Γ1 F1 H1 v R1 s1 r1 q1 => ?_⟩
    cases d with
    | int m =>
      unfold Rep at r1
      subst r1
      split at q1
      · rename_i m' ds hm e2
        cases hm
        obtain ⟨d, ed, hp⟩ := q1
        obtain ⟨o, e3, a', vs', ea, g1, g2, g3, r'⟩ := R1.sl i _ e2
        rw [e1] at e3
        cases e3; cases ea
        obtain ⟨w, ew, rw'⟩ := atI_reps r' ed
        exact ⟨a, vs', m, w, rfl, rfl, .inl (.inl g1), ew, k d Γ1 F1 H1 w R1 s1 rw' hp⟩
      · exact q1.elim
    | _ => exact False.elim q1
end

def OwR (X : Cx) (id : String) (g : List D → List D → (List D → Prop) → Prop) : Prop :=
  ∀ (pins : List (Addr × Obj)) (s : Shared) (σ : St) (F H : Hp) (l : Addr) (vs args : List V) (xs ds : List D) (us : List Value) (P : List D → Prop) (Q : VK), Inv X pins σ H s → H l = some (.lst vs) → Same F H → Reps X.K F xs vs → Reps X.K F ds args → Vals args us → g xs ds P →
    (∀ ys ws, Reps X.K F ys ws → P ys → Q .non (upd H l (.lst ws))) → wpAny (model X.prog X.w) X.A (call (.builtin id) (.ref l :: us)) (EP X pins σ Q) X.xe s
def w_append : List D → List D → (List D → Prop) → Prop := fun xs ds P => match ds with | [d] => xs.length < sizeLine ∧ P (xs ++ [d]) | _ => False
def insD (xs : List D) (k : Nat) (d : D) : List D := xs.take k ++ d :: xs.drop k
def w_insert : List D → List D → (List D → Prop) → Prop := fun xs ds P => match ds with | [.int k, d] => 0 ≤ k ∧ k ≤ xs.length ∧ xs.length < sizeLine ∧ P (insD xs k.toNat d) | _ => False
def w_extend : List D → List D → (List D → Prop) → Prop := fun xs ds P => match ds with | [.lst ys] => xs.length + ys.length ≤ sizeLine ∧ P (xs ++ ys) | _ => False
def w_reverse : List D → List D → (List D → Prop) → Prop := fun xs ds P => match ds with | [] => P xs.reverse | _ => False
def w_clear : List D → List D → (List D → Prop) → Prop := fun xs ds P => match ds with | [] => P [] | _ => False
section
variable {X : Cx}
theorem ow_append : OwR X "list.append" w_append := by
  intro pins s σ F H l vs args xs ds us P Q I hl sF rs ra rv h k
  unfold w_append at h
  split at h
  · unfold Reps Reps at ra
    obtain ⟨v, _, rfl, rd, rfl⟩ := ra
    exact mt_append pins s σ H (.ref l) [v] (.ref l) us Q I rfl rv ⟨l, vs, v, rfl, rfl, hl, by rw [← reps_len rs]; exact h.1, k _ _ (reps_app rs (reps_one rd)) h.2⟩
  · exact h.elim
theorem ow_insert : OwR X "list.insert" w_insert := by
  intro pins s σ F H l vs args xs ds us P Q I hl sF rs ra rv h k
  unfold w_insert at h
  split at h
  · rename_i j d
    unfold Reps Reps Reps at ra
    obtain ⟨v, _, rfl, rj, w, _, rfl, rd, rfl⟩ := ra
    unfold Rep at rj
    subst rj
    obtain ⟨h0, h1, h2, hp⟩ := h
    obtain ⟨u1, u2, rfl, ⟨t, rfl⟩, r2⟩ := vals2 rv
    obtain ⟨z, its, n, r, hlen, e⟩ := I.lstM hl
    have hxl := reps_len rs
    have hfit : ¬ (!Builtin.List.listFitsIndex j) = true := by
      have hn := line63
      unfold Builtin.List.listFitsIndex
      simp
      omega
    refine call_meets PySem.F.slot_list_insert ⟨_, e, rfl⟩ PySem.F.entry_list_insert (PySem.F.args_list_insert_3 _ _ _) (AutoSeq1.list_insert_list_int_val_1 l its.toArray n j t u2 hfit (by rw [List.size_toArray]; omega)) ⟨e, ?_⟩
    have hk : (if j < 0 then (j + (its.toArray.size : Int)).toNat else min j.toNat its.toArray.size) = j.toNat := by
      rw [if_neg (by omega), List.size_toArray]
      omega
    refine ⟨.non, _, I.lset (its' := its.take j.toNat ++ u2 :: its.drop j.toNat) (ys := vs.take j.toNat ++ w :: vs.drop j.toNat) hl e ?_ ?_ ?_, rfl, k _ _ ?_ hp⟩
    · dsimp only
      rw [hk]
      apply Array.toList_inj.mp
      simp
      exact List.take_of_length_le (by simp)
    · exact (r.take _).append (.cons r2 (r.drop _))
    · simp; omega
    · exact reps_app (reps_take _ rs) (reps_cons rd (reps_drop _ rs))
  · exact h.elim
end
section
variable {X : Cx} {F0 H0 : Hp} {x name : Str} {apos cpos npos pos : Pos} {e : Expr} {es : List Expr} {id : String} {i : Nat} {t : TF2} {g : List D → List D → (List D → Prop) → Prop}
def cOw (i : Nat) (g : List D → List D → (List D → Prop) → Prop) (t : TF2) : TS2 := fun D Γ E => (∃ xs, Γ[i]? = some (.ow xs)) ∧ t Γ (fun ds Γ1 => match Γ1[i]? with | some (.ow xs) => g xs ds fun ys => D.nx (Γ1.set i (.ow ys)) | _ => False) E
theorem own_step {z : Wsh} {σ : St} {F Fa H Ha : Hp} {Γ Γ1 : G2} {xs : List D} {a : Addr} {D2 : End2} {Dn : Ends} {vs args : List V} {ds : List D} (_R : SR X.K F0 H0 F H σ Γ) (R1 : SR X.K F0 H0 Fa Ha σ Γ1) (s1 : Same F Fa) (k : EndR X.K F0 H0 F D2 Dn) (e1 : σ[i]? = some (some (.ref a)))
    (q : match Γ1[i]? with | some (.ow xs) => g xs ds fun ys => D2.nx (Γ1.set i (.ow ys)) | _ => False) :
    ∃ vs xs P, Ha a = some (.lst vs) ∧ Reps X.K Fa xs vs ∧ g xs ds P ∧ ∀ ys ws, Reps X.K Fa ys ws → P ys → Dn.nx σ (upd Ha a (.lst ws)) := by
  split at q
  · rename_i xs e
    obtain ⟨o, e2, a', vs, rfl, g1, g2, g3, r⟩ := R1.sl i _ e
    rw [e1] at e2; cases e2
    exact ⟨vs, xs, _, g1, r, q, fun ys ws rw' hp => k.nx _ _ _ _ (R1.wr e e1 rw') s1 hp⟩
  · exact q.elim
theorem qs_own (hr : ∀ z, OwR (X.wsh z) id g) (slot : PySem.Slot "list" name id) (hty : typeOf (.builtin id) = pure (.type "method_descriptor")) (hN : X.N[i]? = some x) (hv : Vis X.env.scope x) (ha : QA X F0 H0 (e :: es) t)
    (hd : (x == ("__debug__" : Str)) = false := by decide) (hcd : (x == ("__classdict__" : Str)) = false := by decide)
    (hbase : attributeBase (.Name x npos) name X.env (eval (.Name x npos) X.env) = eval (.Name x npos) X.env := by rfl)
    (hfew : ((backTo cpos (starEach (e :: es) X.env)).all (fun x => !x.1) && (backToKw cpos (keywordEach [] X.env)).all (fun x => x.1.isSome)
      && decide ((e :: es).length + ([] : List Keyword).length + (if ([] : List Keyword).isEmpty then 0 else 1) < 30)) = true := by rfl)
    (hline : (apos.endLine == cpos.line) = true := by rfl) (hs : starEach (e :: es) X.env = (false, eval e X.env) :: starEach es X.env := by rfl) (hplain : (backTo cpos (starEach es X.env)).any (·.1) = false := by rfl)
    (hsw : swapsWith (.Call (.Attribute (.Name x npos) name apos) (e :: es) [] cpos) none pos.line X.env = pure false := by rfl) :
    QS X F0 H0 (.Expr (.Call (.Attribute (.Name x npos) name apos) (e :: es) [] cpos) pos) (cOw i g t) := by
  intro z E cx
  refine psC (ps_expr (X := X.wsh z) (te := fun σ H Q => tVar i σ H fun v H1 => tyV X.K "list" v H1 ∧ upA X.K F0 H0 t E σ H1 fun vs H2 => ∃ l xs ws F Pd ds, v = .ref l ∧ H2 l = some (.lst ws) ∧ Same F H2 ∧ Reps X.K F xs ws ∧ Reps X.K F ds vs ∧ g xs ds Pd ∧ ∀ ys us, Reps X.K F ys us → Pd ys → Q .non (upd H2 l (.lst us))) ?_ hsw) ?_
  · refine pe_bm (X := X.wsh z) (T := "list") (id := id) (r := fun v vs H2 Q => ∃ l xs ws F Pd ds, v = .ref l ∧ H2 l = some (.lst ws) ∧ Same F H2 ∧ Reps X.K F xs ws ∧ Reps X.K F ds vs ∧ g xs ds Pd ∧ ∀ ys us, Reps X.K F ys us → Pd ys → Q .non (upd H2 l (.lst us)))
      PySem.F.plainAttrs_list slot hty ?_ (pe_var (X := X.wsh z) (i := i) hN hv hd hcd) (ha z E cx) hbase hfew hline hs hplain
    intro pins s σ H x xs v us Q I rx rs ⟨l, ys, ws, Fz, Pd, ds, e1, h1, h2, h3, h4, h5, h6⟩
    subst e1
    cases rx
    exact hr z pins s σ Fz H l ws xs ys ds us Pd Q I h1 h2 h3 h4 rs h5 h6
  · intro Dn σ H ⟨F, Γ, D2, R, ⟨⟨xs, e0⟩, h⟩, k⟩
    obtain ⟨o, e1, a, vs, rfl, h1, h2, h3, r⟩ := R.sl i _ e0
    refine ⟨.ref a, e1, .inl ⟨rfl, vs, .inl (.inl h1)⟩, F, Γ, _, R, h, fun ds Γ1 F1 H1 us R1 s1 r1 q1 => ?_⟩
    obtain ⟨ws, ys, P, g1, g2, g3, g4⟩ := own_step (z := z) (vs := vs) (args := us) (xs := xs) R R1 s1 k e1 q1
    exact ⟨a, ys, ws, F1, P, ds, rfl, g1, R1.g, g2, r1, g3, g4⟩
end
end L3

namespace L3
open PySem PySem.Spec PyProof.Rows L2
section
variable {X : Cx} {F0 H0 : Hp} {st : Stmt} {i : Nat} {t : TF2}
theorem qs_frz (h : QS X F0 H0 st (cSetF i t)) : QS X F0 H0 st (cSet i (cOf t)) := fun z E cx =>
  psC (h z E cx) fun Dn σ H ⟨F, Γ, D2, R, q, k⟩ => by
    have key : (fun (ds : List D) (Γ1 : G2) => (match (Γ1.set i (.ow ds))[i]? with | some (.ow ds') => D2.nx ((Γ1.set i (.ow ds)).set i (.pu (.lst ds'))) | _ => D2.nx (Γ1.set i (.ow ds)))) = fun ds Γ1 => D2.nx (Γ1.set i (.pu (.lst ds))) := by
      funext ds Γ1
      by_cases hi : i < Γ1.length
      · rw [List.getElem?_set_self hi]
        dsimp only
        rw [List.set_set]
      · rw [List.getElem?_eq_none (by simpa using hi)]
        dsimp only
        rw [List.set_eq_of_length_le (by omega), List.set_eq_of_length_le (by omega)]
    refine ⟨F, Γ, { D2 with nx := fun Γ' => match Γ'[i]? with | some (.ow ds) => D2.nx (Γ'.set i (.pu (.lst ds))) | _ => D2.nx Γ' }, R, ?_, ⟨fun Γ' F' H' σ' R' s' q' => ?_, k.bk, k.ct, k.rt, k.rf, k.rT⟩⟩
    · show t Γ _ E
      dsimp only
      rw [key]
      exact q
    · dsimp only at q'
      split at q'
      · rename_i ds e
        obtain ⟨a, F2, _, s2, R2, _⟩ := R'.frz e
        exact k.nx _ _ _ _ R2 (s'.trans s2) q'
      · exact k.nx _ _ _ _ R' s' q'
end
def fCat (t u : TE2) : TF2 := fun Γ P E => t Γ (fun d Γ1 => u Γ1 (fun d' Γ2 => match d, d' with | .lst xs, .lst ys => xs.length + ys.length ≤ sizeLine ∧ P (xs ++ ys) Γ2 | _, _ => False) E) E
section
variable {X : Cx} {F0 H0 : Hp} {a b c : Expr} {pos : Pos} {ta tb tc : TE2}
theorem cat_lists {M : Program} {w : World} {A : Around} {E : Value → Shared → Prop} {s : Shared} {l b : Addr} {vs ws : List Value} {Q : Value → Shared → Prop} (hl : s.heap.IsList l vs.toArray) (hb : s.heap.IsList b ws.toArray)
    (h : Q (.ref s.heap.objs.size) { s with heap := s.heap.push { cls := .type "list", data := .seq (vs ++ ws).toArray } }) (hsz : vs.length + ws.length ≤ sizeLine) : wpAny (model M w) A (binaryOp .Add (.ref l) (.ref b)) Q E s := by
  obtain ⟨⟨cls, dd, data, sl⟩, ho, hc, n, hd⟩ := id hl
  obtain ⟨⟨cls2, dd2, data2, sl2⟩, ho2, hc2, n2, hd2⟩ := id hb
  simp only at hc hd hc2 hd2
  subst hc hd hc2 hd2
  have e : vs.toArray ++ ws.toArray = (vs ++ ws).toArray := by simp
  refine concat_meets ⟨_, ho, rfl⟩ ⟨_, ho2, rfl⟩ noFill_list_add seq_list_add PySem.F.slot_list_add PySem.F.entry_list_add (PySem.F.args_list_add_2 _ _) (list_addW l b vs.toArray ws.toArray n n2 dd dd2 sl sl2 (by simpa using hsz)) ⟨ho, ho2, ?_⟩
  rw [e]
  exact h
theorem qf_cat (ha : QE X F0 H0 a ta) (hb : QE X F0 H0 b tb) : QF X F0 H0 (.BinOp a .Add b pos) (fCat ta tb) := fun z E cx =>
  peC (pe_op (X := X.wsh z) (r := fun x y H Q => ∃ p q xs ys, x = .ref p ∧ y = .ref q ∧ SqL X.K H p xs ∧ SqL X.K H q ys ∧ xs.length + ys.length ≤ sizeLine ∧ ∀ l, H l = none → Q (.ref l) (upd H l (.lst (xs ++ ys)))) (by
    intro pins s σ H x y v u Q I rx ry ⟨p, q, xs, ys, e1, e2, h1, h2, hz, k⟩
    subst e1 e2
    cases rx; cases ry
    obtain ⟨its, r, pl, _⟩ := I.list h1
    obtain ⟨its2, r2, pl2, _⟩ := I.list h2
    have l1 := r.length
    have l2 := r2.length
    refine cat_lists pl.isList pl2.isList ?_ (by omega)
    exact ⟨.ref _, _, I.lnew (t' := s.toks) (r.append r2) (by rw [List.length_append]; omega), rfl, k _ I.fresh⟩) (ha z E cx) (hb z E cx)) fun σ H Q ⟨F, Γ, P, R, h, k⟩ => ⟨F, Γ, _, R, h, fun d1 Γ1 F1 H1 v1 R1 s1 r1 h1 => ⟨F1, Γ1, _, R1, h1, fun d2 Γ2 F2 H2 v2 R2 s2 r2 h2 => by
      cases d1 with
      | lst xs =>
        cases d2 with
        | lst ys =>
          have r1' := r1.up s2
          unfold Rep at r1' r2
          obtain ⟨p, vs, rfl, hq, rs⟩ := r1'
          obtain ⟨q, ws, rfl, hq2, rs2⟩ := r2
          refine ⟨p, q, vs, ws, rfl, rfl, R2.g.seq hq, R2.g.seq hq2, by rw [← reps_len rs, ← reps_len rs2]; exact h2.1, fun l hl => ?_⟩
          have ra := reps_app rs rs2
          obtain ⟨R3, e1, e2, e3, ap⟩ := new_lst R2 hl ra
          exact k _ Γ2 F2 _ l _ R3 (s1.trans s2) e1 e2 e3 ra ap h2.2
        | _ => exact False.elim h2
      | _ => exact False.elim h2⟩⟩
def flD : D → Bool | .non => true | .bl _ => true | .int _ => true | .str _ => true | _ => false
def eqD : D → D → Bool
  | .non, .non => true
  | .bl a, .bl b => a == b
  | .bl a, .int b => (if a then 1 else 0) == b
  | .int a, .bl b => a == (if b then 1 else 0)
  | .int a, .int b => a == b
  | .str a, .str b => a == b
  | _, _ => false
def inD (x : D) (xs : List D) : Bool := xs.any fun y => eqD y x
def gIn (neg : Bool) : D → D → (D → Prop) → Prop := fun x y P => match y with
  | .lst xs => flD x = true ∧ xs.all flD = true ∧ P (.bl (if neg then !inD x xs else inD x xs))
  | .tup xs => flD x = true ∧ xs.all flD = true ∧ P (.bl (if neg then !inD x xs else inD x xs))
  | _ => False
theorem fl_v {K : PySem.W.Frag} {F : Hp} {d : D} {v : V} (h : flD d = true) (r : Rep K F d v) : flatV v = true := by
  cases d <;> first | (unfold Rep at r; subst r; rfl) | (exact absurd h Bool.false_ne_true)
theorem eq_v {K : PySem.W.Frag} {F : Hp} {d e : D} {v u : V} (h : flD d = true) (h' : flD e = true) (r : Rep K F d v) (r' : Rep K F e u) : eqV v u = eqD d e := by
  cases d <;> first | (exact absurd h Bool.false_ne_true) | (unfold Rep at r; subst r; cases e <;> first | (exact absurd h' Bool.false_ne_true) | (unfold Rep at r'; subst r'; rfl))
theorem fls_v {K : PySem.W.Frag} {F : Hp} : ∀ {ds : List D} {vs : List V}, Reps K F ds vs → ds.all flD = true → vs.all flatV = true
  | [], vs, r, _ => by unfold Reps at r; subst r; rfl
  | d :: ds, vs, r, h => by
    unfold Reps at r
    obtain ⟨v, us, rfl, r1, r2⟩ := r
    rw [List.all_cons, Bool.and_eq_true] at h ⊢
    exact ⟨fl_v h.1 r1, fls_v r2 h.2⟩
theorem in_v {K : PySem.W.Frag} {F : Hp} {x : D} {u : V} (hx : flD x = true) (rx : Rep K F x u) : ∀ {ds : List D} {vs : List V}, Reps K F ds vs → ds.all flD = true → inV u vs = inD x ds
  | [], vs, r, _ => by unfold Reps at r; subst r; rfl
  | d :: ds, vs, r, h => by
    unfold Reps at r
    obtain ⟨v, us, rfl, r1, r2⟩ := r
    rw [List.all_cons, Bool.and_eq_true] at h
    unfold inV inD
    rw [List.any_cons, List.any_cons, eq_v h.1 hx r1 rx]
    have := in_v hx rx r2 h.2
    unfold inV inD at this
    rw [this]
theorem o_in : OpR X (compareOp .In) (rUp X.K (gIn false)) := by
  intro pins s σ H x y v u Q I rx ry ⟨F, d1, d2, P, sF, r1, r2, h, k⟩
  unfold gIn at h
  split at h
  · unfold Rep at r2
    obtain ⟨p, vs, rfl, hq, rs⟩ := r2
    obtain ⟨h1, h2, h3⟩ := h
    exact op_in_seq pins s σ H x _ v u Q I rx ry ⟨p, vs, rfl, .inl (sF.seq hq), fl_v h1 r1, fls_v rs h2, k _ _ F H (Gr.refl sF) (by rw [in_v h1 r1 rs h2]; unfold Rep; rfl) h3⟩
  · unfold Rep at r2
    obtain ⟨p, vs, rfl, hq, rs⟩ := r2
    obtain ⟨h1, h2, h3⟩ := h
    exact op_in_seq pins s σ H x _ v u Q I rx ry ⟨p, vs, rfl, .inr (sqT_mono sF hq), fl_v h1 r1, fls_v rs h2, k _ _ F H (Gr.refl sF) (by rw [in_v h1 r1 rs h2]; unfold Rep; rfl) h3⟩
  · exact h.elim
theorem o_nin : OpR X (compareOp .NotIn) (rUp X.K (gIn true)) := by
  intro pins s σ H x y v u Q I rx ry ⟨F, d1, d2, P, sF, r1, r2, h, k⟩
  unfold gIn at h
  split at h
  · unfold Rep at r2
    obtain ⟨p, vs, rfl, hq, rs⟩ := r2
    obtain ⟨h1, h2, h3⟩ := h
    exact op_notIn_seq pins s σ H x _ v u Q I rx ry ⟨p, vs, rfl, .inl (sF.seq hq), fl_v h1 r1, fls_v rs h2, k _ _ F H (Gr.refl sF) (by rw [in_v h1 r1 rs h2]; unfold Rep; rfl) h3⟩
  · unfold Rep at r2
    obtain ⟨p, vs, rfl, hq, rs⟩ := r2
    obtain ⟨h1, h2, h3⟩ := h
    exact op_notIn_seq pins s σ H x _ v u Q I rx ry ⟨p, vs, rfl, .inr (sqT_mono sF hq), fl_v h1 r1, fls_v rs h2, k _ _ F H (Gr.refl sF) (by rw [in_v h1 r1 rs h2]; unfold Rep; rfl) h3⟩
  · exact h.elim
def cChain (g g' : D → D → (D → Prop) → Prop) (ta tb tc : TE2) : TE2 := fun Γ P E => ta Γ (fun x Γ1 => tb Γ1 (fun y Γ2 => g x y fun r => match r with
  | .bl k => if k = true then tc Γ2 (fun w Γ3 => g' y w fun d => P d Γ3) E else P (.bl false) Γ2
  | _ => False) E) E
theorem cChain_up {K : PySem.W.Frag} {g g' : D → D → (D → Prop) → Prop} {E : XW} {σ : St} {H : Hp} {Q : VK} (h : upE K F0 H0 (cChain g g' ta tb tc) E σ H Q) : tChain (rUp K g) (rUp K g') (upE K F0 H0 ta E) (upE K F0 H0 tb E) (upE K F0 H0 tc E) σ H Q := by
  obtain ⟨F, Γ, P, R, h, k⟩ := h
  refine ⟨F, Γ, _, R, h, fun x Γ1 F1 H1 v1 R1 s1 r1 h1 => ⟨F1, Γ1, _, R1, h1, fun y Γ2 F2 H2 v2 R2 s2 r2 h2 => ⟨F2, x, y, _, R2.g, r1.up s2, r2, h2, fun d z F' H' gr rz hp => ?_⟩⟩⟩
  cases d with
  | bl b =>
    unfold Rep at rz
    refine ⟨b, rz, ?_⟩
    have R3 := R2.grow gr
    cases b with
    | true =>
      rw [if_pos rfl]
      have hp' : tc Γ2 (fun w Γ3 => g' y w fun d => P d Γ3) E := hp
      exact ⟨F', Γ2, _, R3, hp', fun w Γ3 F3 H3 v3 R4 s4 r4 h4 => ⟨F3, y, w, _, R4.g, r2.up (gr.f.trans s4), r4, h4, fun d z F5 H5 gr5 rz5 hp5 => k d Γ3 F5 H5 z (R4.grow gr5) (s1.trans (s2.trans (gr.f.trans (s4.trans gr5.f)))) rz5 hp5⟩⟩
    | false =>
      rw [if_neg Bool.false_ne_true]
      have hp' : P (.bl false) Γ2 := hp
      exact k _ Γ2 F' H' _ R3 (s1.trans (s2.trans gr.f)) (by unfold Rep; rfl) hp'
  | _ => exact False.elim hp
theorem qe_chain {op op' : CmpOp} {g g' : D → D → (D → Prop) → Prop} (ho : ∀ z, OpR (X.wsh z) (compareOp op) (rUp X.K g)) (ho' : ∀ z, OpR (X.wsh z) (compareOp op') (rUp X.K g')) (ha : QE X F0 H0 a ta) (hb : QE X F0 H0 b tb) (hc : QE X F0 H0 c tc)
    (hm : lastMarks [op, op'] [b, c] = false := by with_unfolding_all rfl) : QE X F0 H0 (.Compare a [op, op'] [b, c] pos) (cChain g g' ta tb tc) := fun z E cx =>
  peC (pe_chain (ho z) (ho' z) (ha z E cx) (hb z E cx) (hc z E cx) hm) fun _ _ _ h => cChain_up h
theorem qt_chain {op op' : CmpOp} {g g' : D → D → (D → Prop) → Prop} (ho : ∀ z, OpR (X.wsh z) (compareOp op) (rUp X.K g)) (ho' : ∀ z, OpR (X.wsh z) (compareOp op') (rUp X.K g')) (ha : QE X F0 H0 a ta) (hb : QE X F0 H0 b tb) (hc : QE X F0 H0 c tc)
    (hm : lastMarks [op, op'] [b, c] = false := by with_unfolding_all rfl) : QT X F0 H0 (.Compare a [op, op'] [b, c] pos) (cT (cChain g g' ta tb tc)) := fun z E cx =>
  ptC (pt_chain (ho z) (ho' z) (ha z E cx) (hb z E cx) (hc z E cx) hm) fun σ H Q h => cChain_up (cT_up h)
end
section
variable {X : Cx} {F0 H0 : Hp} {tg a b : Expr} {t : TF2} {p pc : Pos}
def iRg1 (t : TF2) : TF2 := fun Γ P E => t Γ (fun ds Γ1 => match ds with | [.int j] => (-(2 ^ 62) ≤ j ∧ j < 2 ^ 62) ∧ j.toNat ≤ sizeLine ∧ P ((List.range j.toNat).map fun (k : Nat) => .int (0 + k)) Γ1 | _ => False) E
def iRg2 (t : TF2) : TF2 := fun Γ P E => t Γ (fun ds Γ1 => match ds with | [.int i, .int j] => (-(2 ^ 62) ≤ i ∧ i < 2 ^ 62 ∧ -(2 ^ 62) ≤ j ∧ j < 2 ^ 62) ∧ (j - i).toNat ≤ sizeLine ∧ P ((List.range (j - i).toNat).map fun (k : Nat) => .int (i + k)) Γ1 | _ => False) E
end
def relabelS (sc osc : Scope) : Scope := { sc with names := sc.names.map fun (n, k) => if (k == .free && osc.kind == .function && osc.names.lookup n == some .cell) then (n, .cell) else (n, k) }
end L3

namespace L3
open PySem PySem.Spec PyProof.Rows L2

section
variable {X : Cx} {F0 H0 : Hp} {x : Str} {pos : Pos} {d : D}
def Glb (K : PySem.W.Frag) (mg : Str → Option Value) (x : Str) (d : D) : Prop := ∃ v u, mg x = some u ∧ RelV v u ∧ ∀ F, Rep K F d v
end

structure FunD (K : PySem.W.Frag) (x qual : Str) (st : Stmt) (f : Addr) (fd : FuncData) (dV : Value) : Prop where
  ex : ∃ (oc : Value) (od : Option Addr) (kV doc pm : Value) (an : Option Addr) (cdv ct : Value) (osl : Array (Option Value)),
    fd = PySem.W.fnOf x qual (defArgs st) (defBody st) (defScope st) dV kV doc pm an cdv ct ∧ K.lookup f = some ⟨oc, od, .func fd, osl⟩ ∧ PySem.W.codeIn K cdv qual = true
  kp : PySem.W.keepIn K (.ref f) = true
section
variable {P : Program} {w : World} {K : PySem.W.Frag} {mg : Str → Option Value} {base : Heap}
structure Fn2N (P : Program) (w : World) (K : PySem.W.Frag) (mg : Str → Option Value) (base : Heap) (x : Str) (k : Nat) (ps : List Str) (sp : Sp2) : Prop where
  ex : ∃ f fd, FnOk P w K mg base (CX1 P w) k f fd ps (spUp K sp) ∧ mg x = some (.ref f) ∧ PySem.W.keepIn K (.ref f) = true ∧ Binds K fd ps [] ∧ Binds K fd ps [.none]
end
def cCallN (sp : Sp2) (t : TF2) : TE2 := fun Γ P E => t Γ (fun ds Γ1 => sp (ds ++ [.non]) (fun d => P d Γ1) fun C => E Γ1 C) E
section
variable {X : Cx} {F0 H0 : Hp} {e : Expr} {es : List Expr} {pos p : Pos} {x : Str} {ps : List Str} {k : Nat} {sp : Sp2} {t : TF2}
end

def VE (K : PySem.W.Frag) (C : Addr) : Prop := PySem.W.kitOne K (.ref C) (.type "ValueError") = some true
theorem ve_of {K : PySem.W.Frag} {C : Addr} (h : PySem.W.mroIn K C (.type "ValueError") = some true) : VE K C := by
  unfold VE PySem.W.kitOne
  rw [if_neg (by simp)]
  unfold PySem.W.kitCls
  dsimp only
  rw [if_pos (by decide +kernel)]
  exact h
def cIsv (K : PySem.W.Frag) (ta : TE2) : TE2 := fun Γ P E => ta Γ (fun d Γ1 => match d with | .exc C0 => (ExcK K C0 ∧ ExcG K C0 ∧ VE K C0) ∧ P (.bl true) Γ1 | _ => False) E
def cIst (K : PySem.W.Frag) (Cs : List Addr) (ta : TE2) : TE2 := fun Γ P E => ta Γ (fun d Γ1 => match d with | .exc C0 => (ExcK K C0 ∧ ExcG K C0) ∧ P (.bl (Cs.any fun C => excSub K C0 C)) Γ1 | _ => False) E
theorem kit_any {K : PySem.W.Frag} {C : Addr} (q : ExcK K C) : ∀ {Cs : List Addr}, (∀ D ∈ Cs, clsB K D = true) → PySem.W.kitAny K (.ref C) (Cs.map .ref) = some (Cs.any fun D => excSub K C D)
  | [], _ => rfl
  | D :: Cs, h => by
    rw [List.map_cons]
    unfold PySem.W.kitAny
    rw [kit_exc q (h D List.mem_cons_self), List.any_cons]
    cases e : excSub K C D with
    | true => rfl
    | false => simp only [Bool.false_or]; exact kit_any q fun B hB => h B (List.mem_cons_of_mem _ hB)
def PCl (X : Cx) (es : List Expr) (Cs : List Addr) : Prop := ∀ z, PA (X.wsh z) es fun _ H Q => Q (Cs.map V.ref) H
section
variable {X : Cx} {F0 H0 : Hp} {a : Expr} {pos p pt : Pos} {ta : TE2} {x : Str} {C : Addr} {es : List Expr} {Cs : List Addr}
theorem pcl_nil : PCl X [] [] := fun z => paC pa_nil fun _ _ _ h => h
theorem pcl_cons (hgT : Gl X x) (hT : X.mg x = some (.ref C)) (h : PCl X es Cs) (hd : (x == ("__debug__" : Str)) = false := by decide) (hs : starEach (.Name x pt :: es) X.env = (false, eval (.Name x pt) X.env) :: starEach es X.env := by rfl) : PCl X (.Name x pt :: es) (C :: Cs) := fun z =>
  paC (pa_cons (X := X.wsh z) (pe_glob (X := X.wsh z) (v := .ref C) hgT hT rfl hd) (h z) hs) fun _ _ _ h => h
theorem qe_isv (ha : QE X F0 H0 a ta) (hg : Gl X "isinstance") (hm : X.mg "isinstance" = none) (hgT : Gl X "ValueError") (hmT : X.mg "ValueError" = none)
    (he : starEach [a, .Name "ValueError" pt] X.env = (false, eval a X.env) :: starEach [.Name "ValueError" pt] X.env := by rfl) (he2 : starEach [.Name "ValueError" pt] X.env = [(false, eval (.Name "ValueError" pt) X.env)] := by rfl) : QE X F0 H0 (.Call (.Name "isinstance" p) [a, .Name "ValueError" pt] [] pos) (cIsv X.K ta) := fun z E cx => by
  have pT : PE (X.wsh z) (.Name "ValueError" pt) (tC (.ty "ValueError")) := pe_bltn (X := X.wsh z) hgT hmT (by decide +kernel) rfl
  refine peC (pe_callB (X := X.wsh z) (id := "isinstance") (r := fun vs H Q => ∃ (F : Hp) (C0 : Addr) (x : V), vs = [x, .ty "ValueError"] ∧ Same F H ∧ Rep X.K F (.exc C0) x ∧ (ExcK X.K C0 ∧ ExcG X.K C0 ∧ VE X.K C0) ∧ Q (.bl true) H) ?_ hg hm boot_isinstance (pa_cons (ha z E cx) (pa_cons pT pa_nil (by rw [he2]; rfl)) he) (by decide) (by decide) he (by rw [he2]; rfl)) fun σ H Q ⟨F, Γ, P, R, h, k⟩ => ?_
  · intro pins s σ H xs us Q I r ⟨F, C0, y, e1, sF, rd, hx, q⟩
    subst e1
    obtain ⟨u, w, rfl, ru, rw'⟩ := vals2 r
    obtain rfl : w = Value.type "ValueError" := rw'
    unfold Rep at rd
    obtain ⟨b, rfl, eb⟩ := rd
    cases ru
    obtain ⟨⟨o, vs, g1, g2, _⟩, _⟩ := I.hok b _ (sF _ _ eb)
    exact PySem.W.kia_one (kitx_exc hx.1 hx.2.1) I.kIn ⟨o, g1, g2⟩ hx.2.2 (fun z => nomatch z) fun tk => ⟨.bl _, H, I.tok tk, rfl, q⟩
  · refine ⟨F, Γ, _, R, h, fun d Γ1 F1 H1 v R1 s1 r1 h1 => ?_⟩
    cases d with
    | exc C0 => exact ⟨F1, C0, v, rfl, R1.g, r1, h1.1, k _ _ _ _ _ R1 s1 (by unfold Rep; rfl) h1.2⟩
    | _ => exact False.elim h1
theorem qe_ist {kt} (hT : PCl X es Cs) (hE : ∀ C ∈ Cs, clsB X.K C = true) (ha : QE X F0 H0 a ta) (hg : Gl X "isinstance") (hm : X.mg "isinstance" = none)
    (he : starEach [a, .Tuple es kt pt] X.env = (false, eval a X.env) :: starEach [.Tuple es kt pt] X.env := by rfl) (he2 : starEach [.Tuple es kt pt] X.env = [(false, eval (.Tuple es kt pt) X.env)] := by rfl) (hl : Cs.length ≤ sizeLine := by decide) :
    QE X F0 H0 (.Call (.Name "isinstance" p) [a, .Tuple es kt pt] [] pos) (cIst X.K Cs ta) := fun z E cx => by
  refine peC (pe_callB (X := X.wsh z) (id := "isinstance") (r := fun vs H Q => ∃ (F : Hp) (C0 t : Addr) (x : V) (P : Bool → Prop), vs = [x, .ref t] ∧ Same F H ∧ Rep X.K F (.exc C0) x ∧ H t = some (.tup (Cs.map .ref)) ∧ (ExcK X.K C0 ∧ ExcG X.K C0) ∧ P (Cs.any fun C => excSub X.K C0 C) ∧ ∀ b, P b → Q (.bl b) H) ?_ hg hm boot_isinstance
    (pa_cons (ha z E cx) (pa_cons (pe_tup (hT z)) pa_nil (by rw [he2]; rfl)) he) (by decide) (by decide) he (by rw [he2]; rfl)) fun σ H Q ⟨F, Γ, P, R, h, k⟩ => ?_
  · intro pins s σ H xs us Q I r ⟨F, C0, t, y, P, e1, sF, rd, ht, hx, hb, k⟩
    subst e1
    obtain ⟨u, w, rfl, ru, rw'⟩ := vals2 r
    obtain rfl : w = Value.ref t := rw'
    unfold Rep at rd
    obtain ⟨b, rfl, eb⟩ := rd
    cases ru
    obtain ⟨⟨o, vs, g1, g2, _⟩, _⟩ := I.hok b _ (sF _ _ eb)
    obtain ⟨_, its, rv, ⟨ot, j1, j2, n, j3⟩⟩ := I.hok t _ ht
    have hits : its = Cs.map Value.ref := by
      have : ∀ {l : List Addr} {us : List Value}, Vals (l.map .ref) us → us = l.map Value.ref := by
        intro l
        induction l with
        | nil => intro us r; cases r; rfl
        | cons c l ih =>
          intro us r
          rw [List.map_cons] at r
          cases r with
          | cons r1 r2 => cases r1; rw [ih r2]; rfl
      exact this rv
    subst hits
    obtain ⟨oc, od, odt, osl⟩ := ot
    dsimp only at j2 j3
    subst j2 j3
    exact PySem.W.kia_tup (kitx_exc hx.1 hx.2) I.kIn ⟨o, g1, g2⟩ j1 (kit_any hx.1 hE) (fun z => nomatch z) fun tk => ⟨.bl _, H, I.tok tk, rfl, k _ hb⟩
  · refine ⟨F, Γ, _, R, h, fun d Γ1 F1 H1 v R1 s1 r1 h1 => ⟨by rw [List.length_map]; exact hl, fun t ht => ?_⟩⟩
    cases d with
    | exc C0 =>
      have gr := Gr.laid (o := HO.tup (Cs.map .ref)) R1.g ht
      refine ⟨_, C0, t, v, fun b => P (.bl b) Γ1, rfl, gr.g, r1.up gr.f, upd_same, h1.1, h1.2, fun b hp => k _ _ _ _ _ (R1.grow gr) (s1.trans gr.f) (by unfold Rep; rfl) hp⟩
    | _ => exact False.elim h1
end
end L3

namespace L3
open PySem PySem.Spec PyProof.Rows L2

theorem turnedL {X : Cx} {pins : List (Addr × Obj)} {σ : St} {H : Hp} {s : Shared} {h' : Heap} {t' : Nat} {fp : List Addr} (I : Inv X pins σ H s) (k : ∀ b o, b ∉ fp → s.heap.get? b = some o → h'.get? b = some o) (hf : ∀ b ∈ fp, FpOk X pins H b) : Inv X pins σ H { s with heap := h', toks := t' } := by
  have nit : ∀ b u, H b = some u → b ∉ fp := fun b u e z => by rw [(hf b z).1] at e; cases e
  refine I.step (g' := s.gens) (d' := s.drawn) (ch := fp) (fun b hb => ?_) (fun b o _ _ hc e _ => k b o hc e) (fun b o _ _ hc e _ => ⟨o.slots, k b o hc e⟩) (fun _ _ _ _ n => n) (fun b o hc e => ⟨o, k b o hc e⟩) (fun _ _ e => e) (fun _ _ _ e => e) (fun b ps e => ⟨#[], by rw [e]; simp⟩) (fun m hm => ?_) (fun b u e => ?_) I.bare
  · obtain ⟨f0, f1, f2, f3, f4, f5⟩ := hf b hb
    exact ⟨f3, f1, f4, f5⟩
  · obtain ⟨o, es, ep, ho, r⟩ := hm
    exact ⟨o, es, ep, k _ o (fun z => (hf _ z).2.1 rfl) ho, r⟩
  · refine (I.hok b u e).stay (fun c v hc q => k c v ?_ q) (fun _ q => q) fun _ _ q => q
    rcases hc with z | z
    · rw [z]; exact nit b u e
    · exact nit c _ z
theorem fpOk_upd {X : Cx} {pins : List (Addr × Obj)} {H : Hp} {b a : Addr} {o : HO} (h : FpOk X pins H b) (hb : b ≠ a) : FpOk X pins (upd H a o) b := ⟨by rw [upd_ne hb]; exact h.1, h.2⟩
theorem turnedT {X : Cx} {pins : List (Addr × Obj)} {σ : St} {H : Hp} {s : Shared} {h' : Heap} {t' : Nat} {fp : List Addr} {xs : List V} {its : List Value} (I : Inv X pins σ H s) (k : ∀ b o, b ∉ fp → s.heap.get? b = some o → h'.get? b = some o)
    (hlt : ∀ b ∈ fp, b < s.heap.objs.size) (ht : h'.get? s.heap.objs.size = some { cls := .type "tuple", data := .seq its.toArray }) (hv : Vals xs its) (hz : xs.length ≤ sizeLine) (hf : ∀ b ∈ fp, FpOk X pins H b) :
    Inv X pins σ (upd H s.heap.objs.size (.tup xs)) { s with heap := h', toks := t' } := by
  have I1 : Inv X pins σ (upd H s.heap.objs.size (.tup xs)) { s with heap := s.heap.push { cls := .type "tuple", data := .seq its.toArray }, toks := s.toks } :=
    I.laid (t' := s.toks) (fun b o e => Heap.get?_push_of_some _ e) (Nat.le_refl _) (show ObjOk X.prog X.w _ _ _ (.tup xs) from ⟨hz, its, hv, IsTup.new _ _⟩)
  refine turnedL (s := { s with heap := s.heap.push { cls := .type "tuple", data := .seq its.toArray }, toks := s.toks }) (fp := fp) I1 (fun b o hb e => ?_) fun b hb => fpOk_upd (hf b hb) (Nat.ne_of_lt (hlt b hb))
  rcases Heap.get?_push_cases e with ⟨rfl, rfl⟩ | e
  · exact ht
  · exact k b o hb e

def Ite (K : PySem.W.Frag) (a : Addr) : It :=
  ⟨fun i H => ∃ xs x, SqL K H a xs ∧ xs[i]? = some x, fun i H x H' => ∃ b v, x = .ref b ∧ H b = none ∧ H' = upd H b (.tup [.int i, v]) ∧ ∀ xs, SqL K H a xs → xs[i]? = some v, fun i H => ∃ xs, SqL K H a xs ∧ xs.length ≤ i⟩
def iEnum (K : PySem.W.Frag) (ta : TA) : TI := fun σ H R => ta σ H fun vs H1 => ∃ a xs, vs = [.ref a] ∧ SqL K H1 a xs ∧ (xs.length ≤ sizeLine → R (Ite K a) H1)
def enD : Nat → List D → List D
  | _, [] => []
  | k, x :: r => .tup [.int k, x] :: enD (k + 1) r
def i_enumerate (t : TF2) : TF2 := fun Γ P E => t Γ (fun ds Γ1 => match ds with | [.lst xs] => P (enD 0 xs) Γ1 | _ => False) E
section
variable {X : Cx} {F0 H0 : Hp} {a b e tg : Expr} {es : List Expr} {pos p pt : Pos} {te : TE2} {t : TF2} {g : TG2} {tb : TS2} {elts : List Expr}
end

def u_int : List D → (D → Prop) → Prop := fun ds P => match ds with | [.bl b] => P (.int (if b then 1 else 0)) | [.int i] => P (.int i) | _ => False
theorem q_int {X : Cx} : CallR X (.type "int") (rUpA X.K u_int) := by
  intro pins s σ H xs us Q I r ⟨F, ds, P, sF, rs, h, k⟩
  unfold u_int at h
  split at h
  · unfold Reps Reps Rep at rs
    obtain ⟨v, _, rfl, rfl, rfl⟩ := rs
    obtain ⟨u, rfl, rx⟩ := vals1 r
    cases rx
    exact call_int_bool ⟨.int _, H, I.tok _, ⟨_, rfl⟩, k _ _ F H (Gr.refl sF) (by unfold Rep; rfl) h⟩
  · unfold Reps Reps Rep at rs
    obtain ⟨v, _, rfl, rfl, rfl⟩ := rs
    obtain ⟨u, rfl, rx⟩ := vals1 r
    obtain ⟨t, rfl⟩ := rx
    exact call_int_int ⟨.int _, H, I, ⟨_, rfl⟩, k _ _ F H (Gr.refl sF) (by unfold Rep; rfl) h⟩
  · exact h.elim

theorem intsAre_of : ∀ {ns : List Int} {its : List Value}, Vals (ns.map .int) its → IntsAre its ns
  | [], _, .nil => .nil
  | n :: ns, _, .cons h r => by
    obtain ⟨t, rfl⟩ := h
    exact .cons _ _ (intsAre_of r)
theorem vals_ints : ∀ {ns : List Int} {its : List Value}, IntsAre its ns → Vals (ns.map .int) its
  | _, _, .nil => .nil
  | _, _, .cons _ _ r => .cons ⟨_, rfl⟩ (vals_ints r)
def n_sorted : List D → (List D → Prop) → Prop := fun ds P => match ds with | [.lst xs] => ∃ ns, intsD xs = some ns ∧ ns.length < 64 ∧ ∀ ms : List Int, ms.Perm ns → ms.Pairwise (· ≤ ·) → P (ms.map .int) | _ => False
end L3

namespace L3
open PySem PySem.Spec PyProof.Rows L2

section
variable {prog : Program} {w : World} {A : Around} {E : Value → Shared → Prop} {s : Shared}
def IsIt (t : Bool) (h : Heap) (it l : Addr) (i : Nat) : Prop := match t with | false => h.IsListIter it l i | true => h.IsTupleIter it l i
def IsSq (t : Bool) (h : Heap) (l : Addr) (xs : Array Value) : Prop := match t with | false => h.IsList l xs | true => h.IsTuple l xs
theorem isIt_at {t : Bool} {h h' : Heap} {it l : Addr} {i : Nat} (x : IsIt t h it l i) (k : ∀ o, h.get? it = some o → h'.get? it = some o) : IsIt t h' it l i := by
  cases t <;> exact let ⟨o, ho, r⟩ := x; ⟨o, k o ho, r⟩
theorem isSq_at {t : Bool} {h h' : Heap} {l : Addr} {xs : Array Value} (x : IsSq t h l xs) (k : ∀ o, h.get? l = some o → h'.get? l = some o) : IsSq t h' l xs := by
  cases t <;> exact let ⟨o, ho, r⟩ := x; ⟨o, k o ho, r⟩
theorem isIt_ob {t : Bool} {h : Heap} {it l : Addr} {i : Nat} (x : IsIt t h it l i) : ∃ o, h.get? it = some o ∧ ∀ v, o.data ≠ .cell v := by
  cases t <;> exact let ⟨o, ho, _, d⟩ := x; ⟨o, ho, fun v z => by rw [d] at z; cases z⟩
theorem iterB {t : Bool} {l : Addr} {xs : Array Value} {Q : Value → Shared → Prop} (hl : IsSq t s.heap l xs)
    (hQ : Q (.ref s.heap.objs.size) { s with heap := s.heap.push { cls := .type (if t then "tuple_iterator" else "list_iterator"), data := .fields #[.ref l, .int 0 0] } }) : wpAny (model prog w) A (pyIter (.ref l)) Q E s := by
  cases t
  · exact wpAny_pyIter_list hl hQ
  · exact wpAny_pyIter_tuple hl hQ
theorem nextB_item {t : Bool} {it l : Addr} {i : Nat} {xs : Array Value} {x : Value} {Q : Value → Shared → Prop} (hit : IsIt t s.heap it l i) (hl : IsSq t s.heap l xs) (hx : xs[i]? = some x)
    (hQ : ∀ h', IsIt t h' it l (i + 1) → Heap.SameBut it s.heap h' → Q x { s with heap := h' }) : wpAny (model prog w) A (Builtin.SmallTypes.nextOf (.ref it)) Q E s := by
  cases t
  · exact wpAny_nextOf_list_item hit hl hx hQ
  · have hit2 : s.heap.IsTupleIter it l i := hit
    obtain ⟨o, ho, hc, hd⟩ := id hit2
    obtain ⟨ol, hol, _, nl, hdl⟩ := (show s.heap.IsTuple l xs from hl)
    unfold Builtin.SmallTypes.nextOf
    refine wpAny_bind (wpAny_callSpecial?_slot (name := Str.ofString "__next__") hit2.typeIs F.slot_tuple_iterator_next (wpAny_call_entry F.slot_tuple_iterator_next hit2.typeIs F.entry_tuple_iterator_next ?_ (F.args_tuple_iterator_next_1 _)))
    show wpAny _ _ (field (.ref it) 0 >>= _) _ _ s
    refine wpAny_bind (wpAny_field ho hd (x := .ref l) rfl ?_)
    show wpAny _ _ (if (Value.ref l == Value.none) = true then _ else _) _ _ s
    rw [if_neg (show ¬ ((Value.ref l == Value.none) = true) from Bool.false_ne_true)]
    show wpAny _ _ (field (.ref it) 1 >>= _) _ _ s
    refine wpAny_bind (wpAny_field ho hd (x := .int i 0) rfl ?_)
    show wpAny _ _ (seqItems? (.ref l) >>= _) _ _ s
    refine wpAny_bind (wpAny_seqItems hol hdl ?_)
    simp only [Int.toNat_natCast, hx]
    refine wpAny_bind (wpAny_setField ho hd (by simp) (wpAny_pure ⟨x, rfl, wpAny_pure (hQ _ ?_ (Heap.SameBut.update ..))⟩))
    exact ⟨_, Heap.get?_update_self _ ho (Obj.isFreed_of_fields (Obj.data_mapFields hd _)), (Obj.cls_mapFields ..).trans hc, by rw [Obj.data_mapFields hd]; simp [rawInt]⟩
theorem nextB_end {t : Bool} {it l : Addr} {i : Nat} {xs : Array Value} {Q : Value → Shared → Prop} (hh : A.handled = none) (hit : IsIt t s.heap it l i) (hl : IsSq t s.heap l xs) (hx : xs[i]? = none)
    (hE : ∀ h' e, Heap.ExtBut it s.heap h' → (∃ o, h'.get? e = some o ∧ o.cls = .type "StopIteration") → E (.ref e) { s with heap := h' }) : wpAny (model prog w) A (Builtin.SmallTypes.nextOf (.ref it)) Q E s := by
  cases t
  · exact wpAny_nextOf_list_end hh hit hl hx hE
  · have hit2 : s.heap.IsTupleIter it l i := hit
    obtain ⟨o, ho, hc, hd⟩ := id hit2
    obtain ⟨ol, hol, _, nl, hdl⟩ := (show s.heap.IsTuple l xs from hl)
    unfold Builtin.SmallTypes.nextOf
    refine wpAny_bind (wpAny_callSpecial?_slot (name := Str.ofString "__next__") hit2.typeIs F.slot_tuple_iterator_next (wpAny_call_entry F.slot_tuple_iterator_next hit2.typeIs F.entry_tuple_iterator_next ?_ (F.args_tuple_iterator_next_1 _)))
    show wpAny _ _ (field (.ref it) 0 >>= _) _ _ s
    refine wpAny_bind (wpAny_field ho hd (x := .ref l) rfl ?_)
    show wpAny _ _ (if (Value.ref l == Value.none) = true then _ else _) _ _ s
    rw [if_neg (show ¬ ((Value.ref l == Value.none) = true) from Bool.false_ne_true)]
    show wpAny _ _ (field (.ref it) 1 >>= _) _ _ s
    refine wpAny_bind (wpAny_field ho hd (x := .int i 0) rfl ?_)
    show wpAny _ _ (seqItems? (.ref l) >>= _) _ _ s
    refine wpAny_bind (wpAny_seqItems hol hdl ?_)
    simp only [Int.toNat_natCast, hx]
    refine wpAny_bind (wpAny_rule (wpAny_bind (wpAny_setField ho hd (by simp) ?_)))
    show wpAny _ _ (newExc (.type "StopIteration") [] >>= _) _ _ _
    refine wpAny_bind ?_
    simp only [newExc, newTuple]
    refine wpAny_bind (wpAny_newObj_type ?_ (by size_fits))
    refine wpAny_bind (m := firstArgMember _ _) (wpAny_of_eq (a := Value.none) (by first | rfl | (simp only [firstArgMember]; rfl)) ?_)
    refine wpAny_newObj_type ?_ (by size_fits)
    simp only [raiseNew]
    refine wpAny_bind (wpAny_handled ?_)
    first | rw [show A.in1.handled = none from hh] | rw [hh]
    refine wpAny_bind (wpAny_pure (wpAny_throw ?_))
    exact hE _ _ (((Heap.SameBut.update ..).extBut.push _).push _) ⟨_, Heap.get?_push_size _ rfl, rfl⟩

structure ZApart (z TI TO i1 i2 l1 l2 : Addr) : Prop where
  p : TI ≠ z ∧ TO ≠ z ∧ i1 ≠ z ∧ i2 ≠ z ∧ TI ≠ TO ∧ TI ≠ i1 ∧ TI ≠ i2 ∧ TO ≠ i1 ∧ TO ≠ i2 ∧ i1 ≠ i2
  q : l1 ≠ z ∧ l1 ≠ TO ∧ l1 ≠ i1 ∧ l1 ≠ i2 ∧ l2 ≠ z ∧ l2 ≠ TO ∧ l2 ≠ i1 ∧ l2 ≠ i2
theorem ZApart.k {z TI TO i1 i2 l1 l2 : Addr} (D : ZApart z TI TO i1 i2 l1 l2) : ZipApart z TI TO i1 i2 l1 l2 := by
  obtain ⟨⟨a1, a2, a3, a4, a5, a6, a7, a8, a9, a10⟩, b1, b2, b3, b4, b5, b6, b7, b8⟩ := D
  exact ⟨a1, a2, a3, a4, a5, a6, a7, a8, a9, a10, b1, b2, b3, b4, b5, b6, b7, b8⟩
theorem zipB_item {t1 t2 : Bool} {z TI TO i1 i2 l1 l2 : Addr} {k1 k2 : Nat} {xs ys : Array Value} {x y a b : Value} {Q : Value → Shared → Prop} (D : ZipApart z TI TO i1 i2 l1 l2) (hz : IsZip s.heap z TI TO .none) (hTI : IsPair s.heap TI (.ref i1) (.ref i2)) (hTO : IsPair s.heap TO a b)
    (h1 : IsIt t1 s.heap i1 l1 k1) (h2 : IsIt t2 s.heap i2 l2 k2) (hl1 : IsSq t1 s.heap l1 xs) (hl2 : IsSq t2 s.heap l2 ys) (hx : xs[k1]? = some x) (hy : ys[k2]? = some y)
    (hQ : ∀ h', IsZip h' z TI TO (rawInt s.heap.objs.size) → IsPair h' TO x y → IsIt t1 h' i1 l1 (k1 + 1) → IsIt t2 h' i2 l2 (k2 + 1) → IsPair h' s.heap.objs.size x y → h'.objs.size = s.heap.objs.size + 1 →
      (∀ c o, c ≠ z → c ≠ TO → c ≠ i1 → c ≠ i2 → s.heap.get? c = some o → h'.get? c = some o) → Q (.ref s.heap.objs.size) { s with heap := h' }) : wpAny (model prog w) A (Builtin.«zip.__next__» ⟨[.ref z], []⟩) (fun fin s' => ∃ v, fin = .done (.ret v) ∧ Q v s') E s := by
  have kI : ∀ {t : Bool} {h h' : Heap} {it l c : Addr} {i : Nat}, IsIt t h it l i → Heap.ExtBut c h h' → it ≠ c → IsIt t h' it l i := fun x e n => isIt_at x fun o ho => e _ o n ho
  have kS : ∀ {t : Bool} {h h' : Heap} {l c : Addr} {ws : Array Value}, IsSq t h l ws → Heap.ExtBut c h h' → l ≠ c → IsSq t h' l ws := fun x e n => isSq_at x fun o ho => e _ o n ho
  show wpAny _ _ (field (.ref z) 2 >>= _) _ _ _; refine wpAny_bind (wpAny_field hz rfl (x := .bool false) rfl ?_)
  show wpAny _ _ (field (.ref z) 3 >>= _) _ _ _; refine wpAny_bind (wpAny_field hz rfl (x := .ref TI) rfl ?_); refine wpAny_bind (wpAny_seqItems hTI rfl ?_)
  show wpAny _ _ (Builtin.SmallTypes.ownedTupleIsFree (.ref z) >>= _) _ _ _; refine wpAny_bind ?_; unfold Builtin.SmallTypes.ownedTupleIsFree
  refine wpAny_bind (wpAny_field hz rfl (x := .none) rfl (wpAny_pure ?_)); simp only [if_true]; refine wpAny_bind (wpAny_rule ?_); refine wpAny_bind (wpAny_field hz rfl (x := .ref TO) rfl ?_)
  refine wpAny_bind (wpAny_setField_rec hz (by simp) fun g1 hz1 hs1 => ?_)
  replace hz1 : IsZip g1 z TI TO .ellipsis := hz1
  refine wpAny_bind ?_; simp only [List.zipIdx_cons, List.zipIdx_nil, List.forIn_cons, List.forIn_nil]; refine wpAny_bind (wpAny_bind (wpAny_onRaise ?_))
  show wpAny _ _ (Builtin.SmallTypes.nextOf (.ref i1) >>= _) _ _ _
  refine wpAny_bind (nextB_item (kI h1 hs1.extBut D.i1z) (kS hl1 hs1.extBut D.l1z) hx fun g2 q1 hs2 => wpAny_pure ?_)
  have t2' : IsPair g2 TO a b := hs2.extBut _ _ D.TOi1 (hs1.extBut _ _ D.TOz hTO)
  refine wpAny_bind (wpAny_seqItems t2' rfl ?_); refine wpAny_bind (wpAny_updateSeq_pair t2' fun g3 t3 hs3 => ?_)
  replace t3 : IsPair g3 TO x b := t3
  refine wpAny_bind (wpAny_letGo (wpAny_pure ?_)); refine wpAny_bind (wpAny_bind (wpAny_onRaise ?_))
  show wpAny _ _ (Builtin.SmallTypes.nextOf (.ref i2) >>= _) _ _ _
  refine wpAny_bind (nextB_item (kI (kI (kI h2 hs1.extBut D.i2z) hs2.extBut D.i12.symm) hs3.extBut D.TOi2.symm) (kS (kS (kS hl2 hs1.extBut D.l2z) hs2.extBut D.l2i1) hs3.extBut D.l2TO) hy fun g4 q2 hs4 => wpAny_pure ?_)
  have t4 : IsPair g4 TO x b := hs4.extBut _ _ D.TOi2 t3
  refine wpAny_bind (wpAny_seqItems t4 rfl ?_); refine wpAny_bind (wpAny_updateSeq_pair t4 fun g5 t5 hs5 => ?_)
  replace t5 : IsPair g5 TO x y := t5
  refine wpAny_bind (wpAny_letGo (wpAny_pure (wpAny_pure ?_))); refine wpAny_bind (wpAny_seqItems t5 rfl ?_); refine wpAny_bind (wpAny_newTuple ?_)
  have hsz : g5.objs.size = s.heap.objs.size := by rw [hs5.1, hs4.1, hs3.1, hs2.1, hs1.1]
  have hz5 : IsZip g5 z TI TO .ellipsis := hs5.extBut _ _ D.TOz.symm (hs4.extBut _ _ D.i2z.symm (hs3.extBut _ _ D.TOz.symm (hs2.extBut _ _ D.i1z.symm hz1)))
  have hk5 : ∀ c o, c ≠ z → c ≠ TO → c ≠ i1 → c ≠ i2 → s.heap.get? c = some o → g5.get? c = some o := fun c o c1 c2 c3 c4 e => hs5.extBut _ _ c2 (hs4.extBut _ _ c4 (hs3.extBut _ _ c2 (hs2.extBut _ _ c3 (hs1.extBut _ _ c1 e))))
  have r1 : IsIt t1 g5 i1 l1 (k1 + 1) := kI (kI (kI q1 hs3.extBut D.TOi1.symm) hs4.extBut D.i12) hs5.extBut D.TOi1.symm
  have r2 : IsIt t2 g5 i2 l2 (k2 + 1) := kI q2 hs5.extBut D.TOi2.symm
  have zlt : z < g5.objs.size := Heap.lt_size hz5
  show wpAny _ _ (Builtin.SmallTypes.ownedTupleHandOut (.ref z) (.ref g5.objs.size) >>= _) _ _ _
  refine wpAny_bind ?_; unfold Builtin.SmallTypes.ownedTupleHandOut
  have hz6 : IsZip (g5.push { cls := .type "tuple", data := .seq #[x, y] }) z TI TO .ellipsis := Heap.get?_push_of_some _ hz5
  refine wpAny_bind (wpAny_setField_rec hz6 (by simp) fun g7 hz7 hs7 => ?_)
  replace hz7 : IsZip g7 z TI TO (rawInt g5.objs.size) := hz7
  refine wpAny_setField_rec hz7 (by simp) fun g8 hz8 hs8 => ?_
  replace hz8 : IsZip g8 z TI TO (rawInt g5.objs.size) := hz8
  have up : ∀ c o, c ≠ z → g5.get? c = some o → g8.get? c = some o := fun c o c1 e => hs8.extBut _ _ c1 (hs7.extBut _ _ c1 (Heap.get?_push_of_some _ e))
  have hT8 : IsPair g8 g5.objs.size x y := hs8.extBut _ _ (Nat.ne_of_gt zlt) (hs7.extBut _ _ (Nat.ne_of_gt zlt) (Heap.get?_push_size _ rfl))
  have sz8 : g8.objs.size = g5.objs.size + 1 := by rw [hs8.1, hs7.1, Heap.size_push]
  rw [hsz] at hz8 hT8 sz8; refine wpAny_pure ⟨_, rfl, ?_⟩
  show Q (.ref g5.objs.size) _
  rw [hsz]
  exact hQ g8 hz8 (up _ _ D.TOz t5) (isIt_at r1 fun o e => up _ o D.i1z e) (isIt_at r2 fun o e => up _ o D.i2z e) hT8 sz8 fun c o c1 c2 c3 c4 e => up c o c1 (hk5 c o c1 c2 c3 c4 e)
theorem zipB_end {t1 t2 : Bool} {z TI TO i1 i2 l1 l2 : Addr} {k1 k2 : Nat} {xs ys : Array Value} {a b : Value} {Q : Fin → Shared → Prop} (hh : A.handled = none) (D : ZipApart z TI TO i1 i2 l1 l2) (hz : IsZip s.heap z TI TO .none) (hTI : IsPair s.heap TI (.ref i1) (.ref i2)) (hTO : IsPair s.heap TO a b)
    (h1 : IsIt t1 s.heap i1 l1 k1) (h2 : IsIt t2 s.heap i2 l2 k2) (hl1 : IsSq t1 s.heap l1 xs) (hl2 : IsSq t2 s.heap l2 ys) (hend : xs[k1]? = none ∨ ys[k2]? = none)
    (hE : ∀ h' e, (∀ c o, c ≠ z → c ≠ TO → c ≠ i1 → c ≠ i2 → s.heap.get? c = some o → h'.get? c = some o) → (∃ o, h'.get? e = some o ∧ o.cls = .type "StopIteration") → E (.ref e) { s with heap := h' }) : wpAny (model prog w) A (Builtin.«zip.__next__» ⟨[.ref z], []⟩) Q E s := by
  have kI : ∀ {t : Bool} {h h' : Heap} {it l c : Addr} {i : Nat}, IsIt t h it l i → Heap.ExtBut c h h' → it ≠ c → IsIt t h' it l i := fun x e n => isIt_at x fun o ho => e _ o n ho
  have kS : ∀ {t : Bool} {h h' : Heap} {l c : Addr} {ws : Array Value}, IsSq t h l ws → Heap.ExtBut c h h' → l ≠ c → IsSq t h' l ws := fun x e n => isSq_at x fun o ho => e _ o n ho
  show wpAny _ _ (field (.ref z) 2 >>= _) _ _ _; refine wpAny_bind (wpAny_field hz rfl (x := .bool false) rfl ?_)
  show wpAny _ _ (field (.ref z) 3 >>= _) _ _ _; refine wpAny_bind (wpAny_field hz rfl (x := .ref TI) rfl ?_); refine wpAny_bind (wpAny_seqItems hTI rfl ?_)
  show wpAny _ _ (Builtin.SmallTypes.ownedTupleIsFree (.ref z) >>= _) _ _ _; refine wpAny_bind ?_; unfold Builtin.SmallTypes.ownedTupleIsFree
  refine wpAny_bind (wpAny_field hz rfl (x := .none) rfl (wpAny_pure ?_)); simp only [if_true]; refine wpAny_bind (wpAny_rule ?_); refine wpAny_bind (wpAny_field hz rfl (x := .ref TO) rfl ?_)
  refine wpAny_bind (wpAny_setField_rec hz (by simp) fun g1 hz1 hs1 => ?_)
  replace hz1 : IsZip g1 z TI TO .ellipsis := hz1
  refine wpAny_bind ?_; simp only [List.zipIdx_cons, List.zipIdx_nil, List.forIn_cons, List.forIn_nil]; refine wpAny_bind (wpAny_bind (wpAny_onRaise ?_))
  show wpAny _ _ (Builtin.SmallTypes.nextOf (.ref i1) >>= _) _ _ _
  cases hx : xs[k1]? with
  | none =>
    refine wpAny_bind (nextB_end hh (kI h1 hs1.extBut D.i1z) (kS hl1 hs1.extBut D.l1z) hx fun g2 e hs2 he => ?_)
    obtain ⟨oe, hoe, hce⟩ := he
    have hz2 : IsZip g2 z TI TO .ellipsis := hs2 _ _ D.i1z.symm hz1
    have hez : e ≠ z := fun x => by subst x; rw [hz2] at hoe; cases hoe; simp at hce
    exact wpAny_setField_rec hz2 (by simp) fun g3 _ hs3 => hE g3 e (fun c o c1 _ c3 _ x => hs3.extBut _ _ c1 (hs2 _ _ c3 (hs1.extBut _ _ c1 x))) ⟨oe, hs3.extBut _ _ hez hoe, hce⟩
  | some x =>
    have hy : ys[k2]? = none := by rcases hend with h | h; rw [hx] at h; cases h; exact h
    refine wpAny_bind (nextB_item (kI h1 hs1.extBut D.i1z) (kS hl1 hs1.extBut D.l1z) hx fun g2 q1 hs2 => wpAny_pure ?_)
    have t2' : IsPair g2 TO a b := hs2.extBut _ _ D.TOi1 (hs1.extBut _ _ D.TOz hTO)
    refine wpAny_bind (wpAny_seqItems t2' rfl ?_); refine wpAny_bind (wpAny_updateSeq_pair t2' fun g3 t3 hs3 => ?_)
    refine wpAny_bind (wpAny_letGo (wpAny_pure ?_)); refine wpAny_bind (wpAny_bind (wpAny_onRaise ?_))
    show wpAny _ _ (Builtin.SmallTypes.nextOf (.ref i2) >>= _) _ _ _
    refine wpAny_bind (nextB_end hh (kI (kI (kI h2 hs1.extBut D.i2z) hs2.extBut D.i12.symm) hs3.extBut D.TOi2.symm) (kS (kS (kS hl2 hs1.extBut D.l2z) hs2.extBut D.l2i1) hs3.extBut D.l2TO) hy fun g4 e hs4 he => ?_)
    obtain ⟨oe, hoe, hce⟩ := he
    have hz4 : IsZip g4 z TI TO .ellipsis := hs4 _ _ D.i2z.symm (hs3.extBut _ _ D.TOz.symm (hs2.extBut _ _ D.i1z.symm hz1))
    have hez : e ≠ z := fun x => by subst x; rw [hz4] at hoe; cases hoe; simp at hce
    exact wpAny_setField_rec hz4 (by simp) fun g5 _ hs5 => hE g5 e (fun c o c1 c2 c3 c4 x => hs5.extBut _ _ c1 (hs4 _ _ c4 (hs3.extBut _ _ c2 (hs2.extBut _ _ c3 (hs1.extBut _ _ c1 x))))) ⟨oe, hs5.extBut _ _ hez hoe, hce⟩
theorem nextZ_item {t1 t2 : Bool} {z TI TO i1 i2 l1 l2 : Addr} {k1 k2 : Nat} {xs ys : Array Value} {x y a b : Value} {Q : Option Value → Shared → Prop} (D : ZipApart z TI TO i1 i2 l1 l2) (hz : IsZip s.heap z TI TO .none) (hTI : IsPair s.heap TI (.ref i1) (.ref i2)) (hTO : IsPair s.heap TO a b)
    (h1 : IsIt t1 s.heap i1 l1 k1) (h2 : IsIt t2 s.heap i2 l2 k2) (hl1 : IsSq t1 s.heap l1 xs) (hl2 : IsSq t2 s.heap l2 ys) (hx : xs[k1]? = some x) (hy : ys[k2]? = some y)
    (hQ : ∀ h', IsZip h' z TI TO (rawInt s.heap.objs.size) → IsPair h' TO x y → IsIt t1 h' i1 l1 (k1 + 1) → IsIt t2 h' i2 l2 (k2 + 1) → IsPair h' s.heap.objs.size x y → h'.objs.size = s.heap.objs.size + 1 →
      (∀ c o, c ≠ z → c ≠ TO → c ≠ i1 → c ≠ i2 → s.heap.get? c = some o → h'.get? c = some o) → Q (some (.ref s.heap.objs.size)) { s with heap := h' }) : wpAny (model prog w) A (pyNext (.ref z)) Q E s := by
  have hT : s.TypeIs (.ref z) "zip" := ⟨_, hz, rfl⟩
  unfold pyNext
  exact wpAny_bind (wpAny_attempt (wpAny_callSpecial?_slot (name := Str.ofString "__next__") hT F.slot_zip_next (wpAny_call_entry F.slot_zip_next hT F.entry_zip_next (zipB_item D hz hTI hTO h1 h2 hl1 hl2 hx hy fun h' a1 a2 a3 a4 a5 a6 a7 => wpAny_pure (hQ h' a1 a2 a3 a4 a5 a6 a7)) (F.args_zip_next_1 _))))
theorem nextZ_end {t1 t2 : Bool} {z TI TO i1 i2 l1 l2 : Addr} {k1 k2 : Nat} {xs ys : Array Value} {a b : Value} {Q : Option Value → Shared → Prop} (hh : A.handled = none) (D : ZipApart z TI TO i1 i2 l1 l2) (hz : IsZip s.heap z TI TO .none) (hTI : IsPair s.heap TI (.ref i1) (.ref i2)) (hTO : IsPair s.heap TO a b)
    (h1 : IsIt t1 s.heap i1 l1 k1) (h2 : IsIt t2 s.heap i2 l2 k2) (hl1 : IsSq t1 s.heap l1 xs) (hl2 : IsSq t2 s.heap l2 ys) (hend : xs[k1]? = none ∨ ys[k2]? = none)
    (hQ : ∀ h', (∀ c o, c ≠ z → c ≠ TO → c ≠ i1 → c ≠ i2 → s.heap.get? c = some o → h'.get? c = some o) → Q none { s with heap := h' }) : wpAny (model prog w) A (pyNext (.ref z)) Q E s := by
  have hT : s.TypeIs (.ref z) "zip" := ⟨_, hz, rfl⟩
  unfold pyNext
  refine wpAny_bind (wpAny_attempt (wpAny_callSpecial?_slot (name := Str.ofString "__next__") hT F.slot_zip_next (wpAny_call_entry F.slot_zip_next hT F.entry_zip_next (zipB_end hh D hz hTI hTO h1 h2 hl1 hl2 hend fun h' e hk he => ?_) (F.args_zip_next_1 _))))
  obtain ⟨o, ho, hc⟩ := he
  refine wpAny_bind (wpAny_isInstance (T := "StopIteration") (b := true) ⟨o, ho, hc⟩ isSubtype_stop ?_); exact wpAny_pure (hQ _ hk)
def itN (t : Bool) : String := if t then "tuple_iterator" else "list_iterator"
abbrev zH1 (t1 : Bool) (h : Heap) (l1 : Addr) : Heap := h.push { cls := .type (itN t1), data := .fields #[.ref l1, .int 0 0] }
abbrev zH2 (t1 t2 : Bool) (h : Heap) (l1 l2 : Addr) : Heap := (zH1 t1 h l1).push { cls := .type (itN t2), data := .fields #[.ref l2, .int 0 0] }
abbrev zH3 (t1 t2 : Bool) (h : Heap) (l1 l2 : Addr) : Heap := (zH2 t1 t2 h l1 l2).push { cls := .type "tuple", data := .seq #[.ref h.objs.size, .ref (zH1 t1 h l1).objs.size] }
abbrev zH4 (t1 t2 : Bool) (h : Heap) (l1 l2 : Addr) : Heap := (zH3 t1 t2 h l1 l2).push { cls := .type "tuple", data := .seq #[.none, .none] }
abbrev zH5 (t1 t2 : Bool) (h : Heap) (l1 l2 : Addr) : Heap := (zH4 t1 t2 h l1 l2).push { cls := .type "zip", data := .fields #[.none, .bool false, .bool false, .ref (zH2 t1 t2 h l1 l2).objs.size, .ref (zH3 t1 t2 h l1 l2).objs.size] }
theorem isSq_push {t : Bool} {h : Heap} {l : Addr} {xs : Array Value} (x : IsSq t h l xs) (o : Obj) : IsSq t (h.push o) l xs := isSq_at x fun _ e => Heap.get?_push_of_some _ e
theorem iterB' {t : Bool} {l : Addr} {xs : Array Value} {Q : Value → Shared → Prop} (hl : IsSq t s.heap l xs)
    (hQ : Q (.ref s.heap.objs.size) { s with heap := s.heap.push { cls := .type (itN t), data := .fields #[.ref l, .int 0 0] } }) : wpAny (model prog w) A (pyIter (.ref l)) Q E s := iterB hl hQ
theorem meetsZ (t1 t2 : Bool) (l1 l2 : Addr) (xs ys : Array Value) : Meets (Builtin.«zip.__new__» ⟨[.type "zip", .ref l1, .ref l2], []⟩) (fun _ R s => IsSq t1 s.heap l1 xs ∧ IsSq t2 s.heap l2 ys ∧ R (.ok (.ret (.ref (zH4 t1 t2 s.heap l1 l2).objs.size))) { s with heap := zH5 t1 t2 s.heap l1 l2 }) :=
  .of_wp fun prog w A R s h => by
    obtain ⟨hp, g, d, tk, os⟩ := s
    obtain ⟨hl1, hl2, h⟩ := h
    have hsub := sub_zip
    have hL1 : IsSq t1 (Shared.heap ⟨hp, g, d, tk, os⟩) l1 xs := hl1
    have hL2 : IsSq t2 (Shared.heap ⟨hp.push { cls := .type (itN t1), data := .fields #[.ref l1, .int 0 0] }, g, d, tk, os⟩) l2 ys := isSq_push hl2 _
    wp_walk using iterB' hL1, iterB' hL2
    exact ⟨_, rfl, h⟩
theorem isIt_new {t : Bool} {h : Heap} {a l : Addr} (e : h.get? a = some { cls := .type (itN t), data := .fields #[.ref l, .int 0 0] }) : IsIt t h a l 0 := by
  cases t <;> exact ⟨_, e, rfl, rfl⟩
theorem call_zipB {t1 t2 : Bool} {l1 l2 : Addr} {xs ys : Array Value} {Q : Value → Shared → Prop} (hl1 : IsSq t1 s.heap l1 xs) (hl2 : IsSq t2 s.heap l2 ys)
    (h : ∀ h', IsZip h' (s.heap.objs.size + 4) (s.heap.objs.size + 2) (s.heap.objs.size + 3) .none → IsPair h' (s.heap.objs.size + 2) (.ref s.heap.objs.size) (.ref (s.heap.objs.size + 1)) → IsPair h' (s.heap.objs.size + 3) .none .none → IsIt t1 h' s.heap.objs.size l1 0 → IsIt t2 h' (s.heap.objs.size + 1) l2 0 →
      (∀ c o, s.heap.get? c = some o → h'.get? c = some o) → Q (.ref (s.heap.objs.size + 4)) { s with heap := h' }) : wpAny (model prog w) A (call (.type "zip") [.ref l1, .ref l2]) Q E s := by
  refine callType_new F.called_zip (by decide) (F.typeCall_zip_2 _ _) (F.newCall_zip_2 _ _) (fun obj => F.args_object_init_3 obj _ _) F.entry_zip_new (meetsZ t1 t2 l1 l2 xs ys) ⟨hl1, hl2, ?_⟩
  have z1 : (zH1 t1 s.heap l1).objs.size = s.heap.objs.size + 1 := Heap.size_push ..
  have z2 : (zH2 t1 t2 s.heap l1 l2).objs.size = s.heap.objs.size + 2 := by rw [Heap.size_push, z1]
  have z3 : (zH3 t1 t2 s.heap l1 l2).objs.size = s.heap.objs.size + 3 := by rw [Heap.size_push, z2]
  have z4 : (zH4 t1 t2 s.heap l1 l2).objs.size = s.heap.objs.size + 4 := by rw [Heap.size_push, z3]
  have g5 : (zH5 t1 t2 s.heap l1 l2).get? (zH4 t1 t2 s.heap l1 l2).objs.size = some _ := Heap.get?_push_size _ rfl
  have g4 : (zH5 t1 t2 s.heap l1 l2).get? (zH3 t1 t2 s.heap l1 l2).objs.size = some _ := Heap.get?_push_of_some _ (Heap.get?_push_size _ rfl)
  have g3 : (zH5 t1 t2 s.heap l1 l2).get? (zH2 t1 t2 s.heap l1 l2).objs.size = some _ := Heap.get?_push_of_some _ (Heap.get?_push_of_some _ (Heap.get?_push_size _ rfl))
  have g2 : (zH5 t1 t2 s.heap l1 l2).get? (zH1 t1 s.heap l1).objs.size = some _ := Heap.get?_push_of_some _ (Heap.get?_push_of_some _ (Heap.get?_push_of_some _ (Heap.get?_push_size _ rfl)))
  have g1 : (zH5 t1 t2 s.heap l1 l2).get? s.heap.objs.size = some _ := Heap.get?_push_of_some _ (Heap.get?_push_of_some _ (Heap.get?_push_of_some _ (Heap.get?_push_of_some _ (Heap.get?_push_size _ rfl))))
  show _ ∧ _
  rw [z2, z3, z4] at g5; rw [z1, z2] at g3; rw [z3] at g4; rw [z1] at g2; rw [z4]
  exact ⟨⟨_, g5, rfl⟩, h _ g5 g3 g4 (isIt_new g1) (isIt_new g2) fun c o x => Heap.get?_push_of_some _ (Heap.get?_push_of_some _ (Heap.get?_push_of_some _ (Heap.get?_push_of_some _ (Heap.get?_push_of_some _ x))))⟩
end

def Sq (t : Bool) (K : PySem.W.Frag) (H : Hp) (a : Addr) (xs : List V) : Prop := match t with | false => SqL K H a xs | true => SqT K H a xs
theorem sq_get {X : Cx} {pins : List (Addr × Obj)} {σ : St} {H : Hp} {s : Shared} {t : Bool} {a : Addr} {xs : List V} (I : Inv X pins σ H s) (h : Sq t X.K H a xs) : ∃ its : List Value, Vals xs its ∧ IsSq t s.heap a its.toArray ∧ xs.length ≤ sizeLine := by
  cases t
  · obtain ⟨its, rv, p, hz⟩ := I.list h
    exact ⟨its, rv, p.isList, hz⟩
  · obtain ⟨its, rv, p, hz⟩ := I.tuple h
    exact ⟨its, rv, p, hz⟩
theorem sq_inj {X : Cx} {pins : List (Addr × Obj)} {σ : St} {H : Hp} {s : Shared} {t : Bool} {a : Addr} {xs ys : List V} (I : Inv X pins σ H s) (h : Sq t X.K H a xs) (h' : Sq t X.K H a ys) : xs = ys := by
  cases t
  · exact I.list_inj h h'
  · exact I.tuple_inj h h'
def Itz (K : PySem.W.Frag) (t1 t2 : Bool) (a b : Addr) : It :=
  ⟨fun i H => ∃ xs ys x y, Sq t1 K H a xs ∧ Sq t2 K H b ys ∧ xs[i]? = some x ∧ ys[i]? = some y, fun i H v H' => ∃ c x y, v = .ref c ∧ H c = none ∧ H' = upd H c (.tup [x, y]) ∧ (∀ xs, Sq t1 K H a xs → xs[i]? = some x) ∧ ∀ ys, Sq t2 K H b ys → ys[i]? = some y,
    fun i H => ∃ xs ys, Sq t1 K H a xs ∧ Sq t2 K H b ys ∧ (xs.length ≤ i ∨ ys.length ≤ i)⟩
theorem zap {n l1 l2 : Nat} (h1 : l1 < n) (h2 : l2 < n) : ZApart (n + 4) (n + 2) (n + 3) n (n + 1) l1 l2 := by
  have e : ∀ a b : Nat, a ≠ b → (a : Addr) ≠ b := fun _ _ h => h
  refine ⟨⟨e _ _ ?_, e _ _ ?_, e _ _ ?_, e _ _ ?_, e _ _ ?_, e _ _ ?_, e _ _ ?_, e _ _ ?_, e _ _ ?_, e _ _ ?_⟩, e _ _ ?_, e _ _ ?_, e _ _ ?_, e _ _ ?_, e _ _ ?_, e _ _ ?_, e _ _ ?_, e _ _ ?_⟩ <;> omega
theorem turn_zip {P : Program} {w : World} {K : PySem.W.Frag} {elts : List Expr} {x1} {pos : Pos} (t1 t2 : Bool) (a b z TI TO i1 i2 : Addr) (D : ZApart z TI TO i1 i2 a b) : Turn P w K (.Tuple elts x1 pos) (Itz K t1 t2 a b) [z, TI, TO, i1, i2] z
    (fun i h => IsZip h z TI TO .none ∧ IsPair h TI (.ref i1) (.ref i2) ∧ (∃ u v, IsPair h TO u v) ∧ IsIt t1 h i1 a i ∧ IsIt t2 h i2 b i) where
  mem := by simp
  obj := fun i h q c hc => by
    obtain ⟨q1, q2, ⟨u, v, q3⟩, q4, q5⟩ := q
    simp only [List.mem_cons, List.not_mem_nil, or_false] at hc
    rcases hc with rfl | rfl | rfl | rfl | rfl
    · exact ⟨_, q1, fun v z => by cases z⟩
    · exact ⟨_, q2, fun v z => by cases z⟩
    · exact ⟨_, q3, fun v z => by cases z⟩
    · exact isIt_ob q4
    · exact isIt_ob q5
  keep := fun i h h' q k => by
    obtain ⟨q1, q2, ⟨u, v, q3⟩, q4, q5⟩ := q
    exact ⟨k z (by simp) _ q1, k TI (by simp) _ q2, ⟨u, v, k TO (by simp) _ q3⟩, isIt_at q4 fun o e => k i1 (by simp) o e, isIt_at q5 fun o e => k i2 (by simp) o e⟩
  item := by
    intro X hP hw hK hc i pins s σ H E I hf q hg
    obtain ⟨q1, q2, ⟨u, v, q3⟩, q4, q5⟩ := q
    subst hP hw hK
    obtain ⟨xs, ys, x, y, hq1, hq2, hx, hy⟩ := hg
    obtain ⟨its, rv, p, _⟩ := sq_get I hq1
    obtain ⟨jts, rv2, p2, _⟩ := sq_get I hq2
    obtain ⟨ux, hux, rux⟩ := rv.get hx
    obtain ⟨uy, huy, ruy⟩ := rv2.get hy
    have lt : ∀ c ∈ [z, TI, TO, i1, i2], c < s.heap.objs.size := fun c hc => by
      simp only [List.mem_cons, List.not_mem_nil, or_false] at hc
      rcases hc with rfl | rfl | rfl | rfl | rfl
      · exact Heap.lt_size q1
      · exact Heap.lt_size q2
      · exact Heap.lt_size q3
      · obtain ⟨o, e, _⟩ := isIt_ob q4; exact Heap.lt_size e
      · obtain ⟨o, e, _⟩ := isIt_ob q5; exact Heap.lt_size e
    have Dk := D.k
    refine nextZ_item Dk q1 q2 q3 q4 q5 p p2 (x := ux) (y := uy) (by simpa using hux) (by simpa using huy) fun h1 a1 a2 a3 a4 a5 a6 k1 => ?_
    refine ⟨_, rfl, wpAny_letOwnedTupleGo_zip a1 fun h2 e2 sb => ?_⟩
    have sb2 : Heap.SameBut z h1 h2 := sb
    have zl := lt z (by simp)
    have I2 : Inv X pins σ (upd H s.heap.objs.size (.tup [x, y])) { s with heap := h2, toks := s.toks } :=
      turnedT (fp := [z, TI, TO, i1, i2]) (its := [ux, uy]) I (fun c o hb e => sb2.extBut c o (fun y => hb (by simp [y])) (k1 c o (fun y => hb (by simp [y])) (fun y => hb (by simp [y])) (fun y => hb (by simp [y])) (fun y => hb (by simp [y])) e))
        lt ((sb2.2 _ (Nat.ne_of_gt zl)).trans a5) (.cons rux (.cons ruy .nil)) (by show (2 : Nat) ≤ sizeLine; decide) hf
    refine ⟨.ref s.heap.objs.size, _, I2, rfl, ⟨_, x, y, rfl, I.fresh, rfl, fun zs hz => by rw [sq_inj I hz hq1]; exact hx, fun zs hz => by rw [sq_inj I hz hq2]; exact hy⟩, ⟨e2, ?_, ⟨ux, uy, sb2.extBut _ _ Dk.TOz a2⟩, isIt_at a3 fun o e => sb2.extBut _ o Dk.i1z e, isIt_at a4 fun o e => sb2.extBut _ o Dk.i2z e⟩, fun c hc => ?_⟩
    · exact sb2.extBut _ _ Dk.TIz (k1 _ _ Dk.TIz Dk.TITO Dk.TIi1 Dk.TIi2 q2)
    · exact (fpOk_upd (hf c hc) (Nat.ne_of_lt (lt c hc))).1
  done := by
    intro X hP hw hK hc i pins s σ H E I hf q hg
    obtain ⟨q1, q2, ⟨u, v, q3⟩, q4, q5⟩ := q
    subst hP hw hK
    obtain ⟨xs, ys, hq1, hq2, hx⟩ := hg
    obtain ⟨its, rv, p, _⟩ := sq_get I hq1
    obtain ⟨jts, rv2, p2, _⟩ := sq_get I hq2
    have l1 := rv.length
    have l2 := rv2.length
    refine nextZ_end (I.ok.hd hc) D.k q1 q2 q3 q4 q5 p p2 ?_ fun h' k1 => ⟨rfl, turnedL (t' := s.toks) (fp := [z, TI, TO, i1, i2]) I (fun c o hb e => k1 c o (fun y => hb (by simp [y])) (fun y => hb (by simp [y])) (fun y => hb (by simp [y])) (fun y => hb (by simp [y])) e) hf⟩
    rcases hx with hx | hx
    · exact .inl (by simp; omega)
    · exact .inr (by simp; omega)
  self := fun _ _ _ _ _ q h => wpAny_pyIter_zip q.1 h
theorem boot_zip : bootBuiltins "zip" = some (.type "zip") := by decide +kernel
def iZip (K : PySem.W.Frag) (ta : TA) : TI := fun σ H R => ta σ H fun vs H1 => ∃ t1 t2 a b xs ys, vs = [.ref a, .ref b] ∧ Sq t1 K H1 a xs ∧ Sq t2 K H1 b ys ∧ (xs.length ≤ sizeLine → ys.length ≤ sizeLine → R (Itz K t1 t2 a b) H1)
theorem pi_zip {X : Cx} {a b : Expr} {ta : TA} {p pos : Pos} {elts : List Expr} {x1} {pt : Pos} (hg : Gl X "zip") (hm : X.mg "zip" = none) (ha : PA X [a, b] ta) (hs : starEach [a, b] X.env = (false, eval a X.env) :: starEach [b] X.env := by rfl) (hpl : (backTo pos (starEach [b] X.env)).any (·.1) = false := by rfl) :
    PI X (.Tuple elts x1 pt) (.Call (.Name "zip" p) [a, b] [] pos) (iZip X.K ta) := by
  intro pins s σ H R I h
  refine Call_ (ld_blt I hg hm boot_zip (PyProof.Rows.callWith_type1 (thn (ha pos pins s σ H _ I h) fun us s1 ⟨vs, H1, I1, r1, q1⟩ => ?_) hs hpl))
  obtain ⟨t1, t2, l1, l2, xs, ys, rfl, hq1, hq2, q⟩ := q1
  cases r1 with
  | cons r rr =>
    cases rr with
    | cons r' rr =>
      cases rr
      cases r
      cases r'
      obtain ⟨its, rv, p1, hz1⟩ := sq_get I1 hq1
      obtain ⟨jts, rv2, p2, hz2⟩ := sq_get I1 hq2
      have n1 : l1 < s1.heap.objs.size := by cases t1 <;> exact let ⟨o, e, _⟩ := p1; Heap.lt_size e
      have n2 : l2 < s1.heap.objs.size := by cases t2 <;> exact let ⟨o, e, _⟩ := p2; Heap.lt_size e
      refine call_zipB p1 p2 fun h' e1 e2 e3 e4 e5 kp => ?_
      refine wpAny_pyIter_zip e1 ⟨s1.heap.objs.size + 4, [s1.heap.objs.size + 4, s1.heap.objs.size + 2, s1.heap.objs.size + 3, s1.heap.objs.size, s1.heap.objs.size + 1], _, _, H1, rfl, I1.kept (t' := s1.toks) kp,
        turn_zip t1 t2 l1 l2 _ _ _ _ _ (zap n1 n2), ⟨e1, e2, ⟨_, _, e3⟩, e4, e5⟩, fun c hc => ?_, q hz1 hz2⟩
      have hb2 : s1.heap.objs.size ≤ c := by
        simp only [List.mem_cons, List.not_mem_nil, or_false] at hc
        rcases hc with rfl | rfl | rfl | rfl | rfl
        · exact Nat.le_add_right _ _
        · exact Nat.le_add_right _ _
        · exact Nat.le_add_right _ _
        · exact Nat.le_refl _
        · exact Nat.le_add_right _ _
      exact I1.fpOk hb2 (I1.hok.fresh hb2)
def zipD (xs ys : List D) : List D := List.zipWith (fun x y => .tup [x, y]) xs ys
theorem itd_zip {K : PySem.W.Frag} {F : Hp} {t1 t2 : Bool} {a b : Addr} {vs us : List V} {xs ys : List D} (hq1 : ∀ H1, Same F H1 → Sq t1 K H1 a vs) (hq2 : ∀ H1, Same F H1 → Sq t2 K H1 b us) (r1 : Reps K F xs vs) (r2 : Reps K F ys us) (hz : vs.length ≤ sizeLine) : ItD K F noH (Itz K t1 t2 a b) (zipD xs ys) := by
  have l1 := reps_len r1
  have l2 := reps_len r2
  have lz : (zipD xs ys).length = min xs.length ys.length := List.length_zipWith
  refine ⟨by omega, fun i H2 F2 s2 s3 _ => ⟨fun e => ⟨vs, us, hq1 H2 (s2.trans s3), hq2 H2 (s2.trans s3), by omega⟩, fun d hd => ?_⟩⟩
  unfold zipD at hd
  rw [List.getElem?_zipWith] at hd
  cases e1 : xs[i]? with
  | none => rw [e1] at hd; cases hd
  | some x =>
    cases e2 : ys[i]? with
    | none => rw [e1, e2] at hd; cases hd
    | some y =>
      rw [e1, e2] at hd; cases hd
      obtain ⟨v, hv, rv⟩ := reps_get r1 e1
      obtain ⟨u, hu, ru⟩ := reps_get r2 e2
      refine ⟨⟨vs, us, v, u, hq1 H2 (s2.trans s3), hq2 H2 (s2.trans s3), hv, hu⟩, fun w H' z => ?_⟩
      obtain ⟨c, v2, u2, rfl, hc, rfl, z1, z2⟩ := z
      have := z1 vs (hq1 H2 (s2.trans s3))
      rw [hv] at this; cases this
      have := z2 us (hq2 H2 (s2.trans s3))
      rw [hu] at this; cases this
      have gr := Gr.laid (o := HO.tup [v, u]) s3 hc
      refine ⟨_, gr, ?_⟩
      unfold Rep
      exact ⟨c, _, rfl, .inl (.inl upd_same), reps_cons ((rv.up s2).up gr.f) (reps_cons ((ru.up s2).up gr.f) (by unfold Reps; rfl))⟩
def sqD : D → Option (Bool × List D) | .lst xs => some (false, xs) | .tup xs => some (true, xs) | _ => none
def i_zip (t : TF2) : TF2 := fun Γ P E => t Γ (fun ds Γ1 => match ds with | [x, y] => (match x, y with | .lst xs, .lst ys => P (zipD xs ys) Γ1 | .tup xs, .tup ys => P (zipD xs ys) Γ1 | _, _ => False) | _ => False) E
section
variable {X : Cx} {F0 H0 : Hp} {a b e tg : Expr} {es : List Expr} {pos p pt : Pos} {te : TE2} {t : TF2} {elts : List Expr}
theorem qi_zip {x1} (hc : X.calm = true) (hg : Gl X "zip") (hm : X.mg "zip" = none) (ha : QA X F0 H0 [a, b] t) (hs : starEach [a, b] X.env = (false, eval a X.env) :: starEach [b] X.env := by rfl) (hpl : (backTo pos (starEach [b] X.env)).any (·.1) = false := by rfl) :
    QI X F0 H0 (.Tuple elts x1 pt) (.Call (.Name "zip" p) [a, b] [] pos) (i_zip t) := fun z E cx => piC (pi_zip (X := X.wsh z) hg hm (ha z E cx) hs hpl) fun σ H R ⟨F, Γ, P, S, q, k⟩ => ⟨F, Γ, _, S, q, fun ds Γ1 F1 H1 vs R1 s1 r1 h1 => by
    unfold i_zip at *
    split at h1
    · split at h1
      · unfold Reps Reps Reps Rep at r1
        obtain ⟨v, _, rfl, ⟨l, us, rfl, hq, rs⟩, ⟨v2, _, rfl, ⟨l2, us2, rfl, hq2, rs2⟩, rfl⟩⟩ := r1
        exact ⟨false, false, l, l2, us, us2, rfl, R1.g.seq hq, R1.g.seq hq2, fun hz _ => k _ Γ1 F1 H1 _ R1 s1 (itd_zip (t1 := false) (t2 := false) (fun H s => s.seq hq) (fun H s => s.seq hq2) rs rs2 hz) h1⟩
      · unfold Reps Reps Reps Rep at r1
        obtain ⟨v, _, rfl, ⟨l, us, rfl, hq, rs⟩, ⟨v2, _, rfl, ⟨l2, us2, rfl, hq2, rs2⟩, rfl⟩⟩ := r1
        exact ⟨true, true, l, l2, us, us2, rfl, sqT_mono R1.g hq, sqT_mono R1.g hq2, fun hz _ => k _ Γ1 F1 H1 _ R1 s1 (itd_zip (t1 := true) (t2 := true) (fun H s => sqT_mono s hq) (fun H s => sqT_mono s hq2) rs rs2 hz) h1⟩
      · exact h1.elim
    · exact h1.elim⟩
end
end L3

namespace L3
open PySem PySem.Spec PyProof.Rows L2

def lookD : List Str → List D → Str → Option D
  | f :: fs, d :: ds, g => if g = f then some d else lookD fs ds g
  | _, _, _ => none
def cFld (C : Addr) (f : Str) (te : TE2) : TE2 := fun Γ P E => te Γ (fun d Γ1 => match d with | .obj C' fs ds => C' = C ∧ ∃ x, lookD fs ds f = some x ∧ P x Γ1 | _ => False) E
def cMeth (C : Addr) (m : Str) (sp : Sp2) (te : TE2) (t : TF2) : TE2 := fun Γ P E => te Γ (fun d Γ1 => match d with
  | .obj C' fs ds => C' = C ∧ m ∉ fs ∧ t Γ1 (fun es Γ2 => sp (.obj C' fs ds :: es) (fun r => P r Γ2) fun Cx => E Γ2 Cx) E
  | _ => False) E
section
variable {X : Cx} {F0 H0 : Hp} {e o : Expr} {es : List Expr} {pos p apos : Pos} {f m : Str} {C fa : Addr} {fd : FuncData} {ps : List Str} {k : Nat} {sp : Sp2} {te : TE2} {t : TF2}
end

def spInit (K : PySem.W.Frag) (C : Addr) (f : Str) (sp : Sp2) : Sp := fun vs H Q E => ∃ x dx rest F ds Pd Ex, vs = .ref x :: rest ∧ H x = some (.ins C dx []) ∧ H dx = some (.own x) ∧ dx ≠ x ∧ Same F H ∧ F x = none ∧ F dx = none ∧ Reps K F ds rest ∧ sp ds Pd Ex ∧
  (∀ d F' H' H3 v, Gr F H F' H3 → Rep K F' d v → Pd d → H' = upd H3 x (.ins C dx [(f, v)]) → Q .non H') ∧ ∀ C' H', Ex C' → Same H H' → E C' none H'
theorem cx1_rebase {P : Program} {w : World} {outer : List Env} {H H2 : Hp} {s s2 : Shared} {E : XK} {e : Value} {s' : Shared} (h : CX1 P w outer H2 s2 E e s') (os : s2.os = s.os) (un : Un (frs outer) [] H H2 s.heap s2.heap) (kp : ∀ b o, s.heap.get? b = some o → s2.heap.get? b = some o) : CX1 P w outer H s E e s' := by
  obtain ⟨a, C, H', B, h1, h2, h3, h4, h5, h6, h7, h8, h9⟩ := h
  exact ⟨a, C, H', B, h1, h2.trans os, h3, un.trans h4, h5, h6, fun b o e n => h7 b o (kp b o e) n, h8, h9⟩
def spObj (C : Addr) (f : Str) (sp : Sp2) : Sp2 := fun ds P E => sp ds (fun d => P (.obj C [f] [d])) E
section
variable {P : Program} {w : World} {K : PySem.W.Frag} {mg : Str → Option Value} {base : Heap}
end
section
variable {X : Cx} {F0 H0 : Hp} {e : Expr} {es : List Expr} {pos p : Pos} {x fl : Str} {C f : Addr} {fd : FuncData} {ps : List Str} {k : Nat} {sp : Sp2} {t : TF2}
end

structure Mt2 (P : Program) (w : World) (K : PySem.W.Frag) (mg : Str → Option Value) (base : Heap) (C : Addr) (m : Str) (k : Nat) (ps : List Str) (sp : Sp2) : Prop where
  ex : ∃ f fd, FnOk P w K mg base (CX1 P w) k f fd ps (spUp K sp) ∧ Meth K C m f ∧ Binds K fd ps []
structure Mk2 (P : Program) (w : World) (K : PySem.W.Frag) (mg : Str → Option Value) (base : Heap) (x : Str) (C : Addr) (fl : Str) (k : Nat) (ps : List Str) (sp : Sp2) : Prop where
  ex : ∃ f fd, FnOk P w K mg base (CX1 P w) k f fd ps (spInit K C fl sp) ∧ Mk K C f ∧ mg x = some (.ref C) ∧ Binds K fd ps []
def cSlT (te : TE2) (tl th : TO2) : TE2 := fun Γ P E => te Γ (fun d Γ1 => tl Γ1 (fun l Γ2 => th Γ2 (fun u Γ3 => match d with | .tup xs => ¬ (HT.sIx xs.length 0 l = 0 ∧ HT.sIx xs.length xs.length u = xs.length) ∧ P (.tup (cutD xs l u)) Γ3 | _ => False) E) E) E
section
variable {X : Cx} {F0 H0 : Hp} {e o : Expr} {lo hi : Option Expr} {es : List Expr} {pos p p2 apos : Pos} {x m fl : Str} {C : Addr} {ps : List Str} {k : Nat} {sp : Sp2} {te : TE2} {tl th : TO2} {t : TF2}
def spNo : Sp2 := fun _ _ _ => False
end
end L3

namespace L3
open PySem PySem.Spec PyProof.Rows L2

mutual
def nolD : D → Prop
  | .lst _ => False
  | .exc _ => False
  | .dic _ _ => False
  | .dit _ _ => False
  | .tup xs => nolDs xs
  | .obj _ _ xs => nolDs xs
  | _ => True
def nolDs : List D → Prop
  | [] => True
  | d :: ds => nolD d ∧ nolDs ds
end
section
variable {K : PySem.W.Frag} {F F' : Hp} {A : Addr → Prop}
mutual
theorem rep_cut (hA : ∀ b u, F b = some u → LD u ∨ F' b = some u) : ∀ (d : D) (v : V), nolD d → Rep K F d v → Rep K F' d v
  | .non, _, _, h => by unfold Rep at h ⊢; exact h
  | .bl _, _, _, h => by unfold Rep at h ⊢; exact h
  | .int _, _, _, h => by unfold Rep at h ⊢; exact h
  | .str _, _, _, h => by unfold Rep at h ⊢; exact h
  | .ptr _, _, _, h => by unfold Rep at h ⊢; exact h
  | .tup ds, _, n, h => by
    unfold nolD at n
    unfold Rep at h ⊢
    obtain ⟨a, vs, h0, h1, h2⟩ := h
    refine ⟨a, vs, h0, ?_, reps_cut2 hA ds vs n h2⟩
    rcases h1 with (h1 | ⟨o, h1⟩) | h1
    · rcases hA _ _ h1 with (⟨_, z⟩ | ⟨_, z⟩) | z
      · cases z
      · cases z
      · exact .inl (.inl z)
    · rcases hA _ _ h1 with (⟨_, z⟩ | ⟨_, z⟩) | z
      · cases z
      · cases z
      · exact .inl (.inr ⟨o, z⟩)
    · exact .inr h1
  | .obj C fs ds, _, n, h => by
    unfold nolD at n
    unfold Rep at h ⊢
    obtain ⟨a, dx, vs, h0, h1, h2, h3, h4⟩ := h
    refine ⟨a, dx, vs, h0, ?_, ?_, h3, reps_cut2 hA ds vs n h4⟩
    · rcases hA _ _ h1 with (⟨_, z⟩ | ⟨_, z⟩) | z
      · cases z
      · cases z
      · exact z
    · rcases hA _ _ h2 with (⟨_, z⟩ | ⟨_, z⟩) | z
      · cases z
      · cases z
      · exact z
  | .lst _, _, n, _ => by unfold nolD at n; exact n.elim
  | .exc _, _, n, _ => by unfold nolD at n; exact n.elim
  | .dic _ _, _, n, _ => by unfold nolD at n; exact n.elim
  | .dit _ _, _, n, _ => by unfold nolD at n; exact n.elim
theorem reps_cut2 (hA : ∀ b u, F b = some u → LD u ∨ F' b = some u) : ∀ (ds : List D) (vs : List V), nolDs ds → Reps K F ds vs → Reps K F' ds vs
  | [], _, _, h => by unfold Reps at h ⊢; exact h
  | d :: ds, _, n, h => by
    unfold nolDs at n
    unfold Reps at h ⊢
    obtain ⟨v, r, h0, h1, h2⟩ := h
    exact ⟨v, r, h0, rep_cut hA d v n.1 h1, reps_cut2 hA ds r n.2 h2⟩
end
end
def cLend (te : TE2) : TE2 := fun Γ P _ => te (frzG Γ) (fun d _ => nolD d ∧ P d Γ) noX
section
variable {X : Cx} {F0 H0 : Hp} {e : Expr} {te : TE2}
open Classical in
end
end L3

namespace L3
open PySem PySem.Spec PyProof.Rows L2
def cPut (i : Nat) (ti te : TE2) : TS2 := fun D Γ E => te Γ (fun d Γ1 => (∃ xs, Γ1[i]? = some (.ow xs)) ∧ ti Γ1 (fun k Γ2 => match k, Γ2[i]? with
  | .int k, some (.ow xs) => ∃ j, ixN xs.length k = some j ∧ D.nx (Γ2.set i (.ow (xs.set j d)))
  | _, _ => False) E) E
section
variable {X : Cx} {F0 H0 : Hp} {x : Str} {pos pos' npos : Pos} {e k : Expr} {i : Nat} {te ti : TE2}
end
end L3

namespace L3
open PySem PySem.Spec PyProof.Rows L2

section
variable (K : PySem.W.Frag) (F0 H0 : Hp)
def upR (t : TE2) (E : XW) : TE := fun σ H Q => ∃ F Γ P, SR K F0 H0 F H σ Γ ∧ t Γ P E ∧ ∀ d Γ' F' H' v, SR K F0 H0 F' H' σ Γ' → Same F F' → Rep K (lessL F0 F') d v → P d Γ' → Q v H'
def upAR (t : TF2) (E : XW) : TA := fun σ H Q => ∃ F Γ P, SR K F0 H0 F H σ Γ ∧ t Γ P E ∧ ∀ ds Γ' F' H' vs, SR K F0 H0 F' H' σ Γ' → Same F F' → Reps K (lessL F0 F') ds vs → P ds Γ' → Q vs H'
end
def QR (X : Cx) (F0 H0 : Hp) (e : Expr) (t : TE2) : Prop := ∀ z E, Ctx (X.wsh z) F0 H0 E → PE (X.wsh z) e (upR X.K F0 H0 t E)
def QRA (X : Cx) (F0 H0 : Hp) (es : List Expr) (t : TF2) : Prop := ∀ z E, Ctx (X.wsh z) F0 H0 E → PA (X.wsh z) es (upAR X.K F0 H0 t E)
section
variable {X : Cx} {F0 H0 : Hp} {e : Expr} {es : List Expr} {pos : Pos} {te : TE2}
def cNl (te : TE2) : TE2 := fun Γ P E => te Γ (fun d Γ1 => nolD d ∧ P d Γ1) E
def cOwR (i : Nat) : TE2 := fun Γ P _ => match Γ[i]? with
  | some (.ow ds) => nolDs ds ∧ P (.lst ds) (Γ.set i (.pu (.lst ds)))
  | _ => False
theorem seqL_less {K : PySem.W.Frag} {F : Hp} {a : Addr} {vs : List V} (h0 : F0 a = none) (h : SqL K F a vs) : SqL K (lessL F0 F) a vs := by
  have e : lessL F0 F a = F a := lessL_not fun _ _ q => by rw [h0] at q; cases q
  rcases h with h | h
  · left
    unfold Rd at h ⊢
    rw [e]
    exact h
  · exact .inr h
def cOfR (t : TF2) : TE2 := fun Γ P E => t Γ (fun ds Γ1 => nolDs ds ∧ P (.lst ds) Γ1) E
def cRetR (te : TE2) : TS2 := fun D Γ E => te Γ (fun d _ => D.rf d) E
end

def spUpR (K : PySem.W.Frag) (sp : Sp2) : Sp := fun vs H Q E => ∃ F ds P Ex, Same F H ∧ Reps K F ds vs ∧ sp ds P Ex ∧ (∀ d v F' H', Gr F H F' H' → Rep K (lessL F F') d v → P d → Q v H') ∧ ∀ C H', Ex C → Same H H' → E C none H'
structure Fn2R (P : Program) (w : World) (K : PySem.W.Frag) (mg : Str → Option Value) (base : Heap) (x : Str) (k : Nat) (ps : List Str) (sp : Sp2) : Prop where
  ex : ∃ f fd, FnOk P w K mg base (CX1 P w) k f fd ps (spUpR K sp) ∧ mg x = some (.ref f) ∧ PySem.W.keepIn K (.ref f) = true ∧ Binds K fd ps []
section
variable {P : Program} {w : World} {K : PySem.W.Frag} {mg : Str → Option Value} {base : Heap}
end
section
variable {X : Cx} {F0 H0 : Hp} {e : Expr} {es : List Expr} {pos p : Pos} {x : Str} {f : Addr} {fd : FuncData} {ps : List Str} {k : Nat} {sp : Sp2} {t : TF2} {te : TE2}
def cLendR (te : TE2) : TE2 := fun Γ P _ => te (frzG Γ) (fun d _ => P d Γ) noX
open Classical in
end

def fRep (tf : TF2) (tb : TE2) : TF2 := fun Γ P E => tf Γ (fun xs Γ1 => tb Γ1 (fun d Γ2 => match d with | .int k => (-(2 ^ 63) ≤ k ∧ k < 2 ^ 63 ∧ xs.length * k.toNat ≤ sizeLine) ∧ P (List.replicate k.toNat xs).flatten Γ2 | _ => False) E) E
section
variable {X : Cx} {F0 H0 : Hp} {a b : Expr} {pos : Pos} {tf : TF2} {tb : TE2}
end
end L3

namespace L3
open PySem PySem.Spec PyProof.Rows L2

def evT {α : Type} (lt : Nat → Nat → Bool) : PySem.W.KasT α → α
  | .ret a => a
  | .ask i j k => evT lt (k (lt i j))
def okT {α : Type} (lt : Nat → Nat → Bool) (n : Nat) : PySem.W.KasT α → Bool
  | .ret _ => true
  | .ask i j k => decide (i < n) && (decide (j < n) && (decide (i ≠ j) && okT lt n (k (lt i j))))
def TupI (h : Heap) (v : Value) (i : Int) : Prop := ∃ (x : Addr) (o : Obj) (xs : Array Value) (m : Nat) (t : Tok), v = .ref x ∧ h.get? x = some o ∧ o.cls = .type "tuple" ∧ o.data = .seq xs m ∧ xs[0]? = some (.int i t)
inductive TupsI (h : Heap) : List Value → List Int → Prop
  | nil : TupsI h [] []
  | cons {v i vs is} : TupI h v i → TupsI h vs is → TupsI h (v :: vs) (i :: is)
def ltI (ns : List Int) (i j : Nat) : Bool := decide (ns.getD i 0 < ns.getD j 0)
def srtIx (ns : List Int) : List Nat := if ns.length < 2 then List.range ns.length else (evT (ltI ns) (PySem.W.kas_sort ns.length)).toList
def srtOk (ns : List Int) : Prop := ns.length < 2 ∨ (ns.length < 64 ∧ ns.Nodup ∧ okT (ltI ns) ns.length (PySem.W.kas_sort ns.length) = true)
section
variable {prog : Program} {w : World} {A : Around} {E : Value → Shared → Prop} {s : Shared}
end
def firstsD : List D → Option (List Int)
  | [] => some []
  | .tup (.int i :: _) :: r => (firstsD r).map (i :: ·)
  | _ :: _ => none
def n_sortedT : List D → (List D → Prop) → Prop := fun ds P => match ds with | [.lst xs] => ∃ ns, firstsD xs = some ns ∧ srtOk ns ∧ (∀ i ∈ srtIx ns, i < ns.length) ∧ (srtIx ns).length ≤ sizeLine ∧ P ((srtIx ns).map fun i => xs.getD i .non) | _ => False
end L3

namespace L3
open PySem PySem.Spec PyProof.Rows L2

def Ris (xs : List Nat) : Prop := xs.Pairwise (· < ·)
theorem ris_at {xs : List Nat} (h : Ris xs) {i j : Nat} (hij : i < j) (hj : j < xs.length) : xs[i]'(Nat.lt_trans hij hj) < xs[j] := List.pairwise_iff_getElem.mp h i j _ hj hij

structure Bel (xs : List Nat) (j b : Nat) : Prop where
  le : b ≤ xs.length
  lo : ∀ (k : Nat) (h : k < xs.length), k < b → xs[k] < j
  hi : ∀ (k : Nat) (h : k < xs.length), b ≤ k → j ≤ xs[k]
theorem below_go {xs : Array Nat} (hr : Ris xs.toList) {j : Nat} : ∀ (f lo hi : Nat), lo ≤ hi → hi ≤ xs.toList.length → hi - lo ≤ f → (∀ (k : Nat) (h : k < xs.toList.length), k < lo → xs.toList[k] < j) → (∀ (k : Nat) (h : k < xs.toList.length), hi ≤ k → j ≤ xs.toList[k]) → Bel xs.toList j (SetTable.below.go xs j f lo hi)
  | 0, lo, hi, h1, h2, h3, h4, h5 => by
    unfold SetTable.below.go
    obtain rfl : lo = hi := by omega
    exact ⟨h2, h4, h5⟩
  | f + 1, lo, hi, h1, h2, h3, h4, h5 => by
    unfold SetTable.below.go
    by_cases hl : lo < hi
    · rw [if_pos hl]
      have hm1 : lo ≤ (lo + hi) / 2 := by omega
      have hm2 : (lo + hi) / 2 < hi := by omega
      have hm : (lo + hi) / 2 < xs.toList.length := by omega
      have hg : xs.getD ((lo + hi) / 2) j = xs.toList[(lo + hi) / 2] := by
        have : (lo + hi) / 2 < xs.size := by simpa using hm
        simp [Array.getD, this]
      dsimp only
      rw [hg]
      by_cases hc : xs.toList[(lo + hi) / 2] < j
      · rw [if_pos hc]
        refine below_go hr f _ hi (by omega) h2 (by omega) (fun k hk hlt => ?_) h5
        by_cases e : k = (lo + hi) / 2
        · subst e; exact hc
        · exact Nat.lt_trans (ris_at hr (by omega : k < (lo + hi) / 2) hm) hc
      · rw [if_neg hc]
        refine below_go hr f lo _ (by omega) (by omega) (by omega) h4 fun k hk hle => ?_
        by_cases e : k = (lo + hi) / 2
        · subst e; omega
        · have := ris_at hr (by omega : (lo + hi) / 2 < k) hk
          omega
    · rw [if_neg hl]
      obtain rfl : lo = hi := by omega
      exact ⟨h2, h4, h5⟩
theorem below_ok {xs : Array Nat} (hr : Ris xs.toList) (j : Nat) : Bel xs.toList j (SetTable.below xs j) := by
  unfold SetTable.below
  exact below_go hr _ 0 _ (Nat.zero_le _) (by simp) (by omega) (fun k _ h => by omega) fun k hk h => by simp at hk; omega
theorem bel_eq {xs : List Nat} {j b c : Nat} (h : Bel xs j b) (k : Bel xs j c) : b = c := by
  rcases Nat.lt_trichotomy b c with q | q | q
  · have hb : b < xs.length := Nat.lt_of_lt_of_le q k.le
    have := k.lo b hb q
    have := h.hi b hb (Nat.le_refl _)
    omega
  · exact q
  · have hc : c < xs.length := Nat.lt_of_lt_of_le q h.le
    have := h.lo c hc q
    have := k.hi c hc (Nat.le_refl _)
    omega
theorem ris_put {xs : Array Nat} (hr : Ris xs.toList) {j : Nat} (hn : xs[SetTable.below xs j]? ≠ some j) : Ris (SetTable.insertAt xs (SetTable.below xs j) j).toList := by
  rw [SetTable.toList_insertAt]
  have hb := below_ok hr j
  generalize SetTable.below xs j = b at *
  have hn' : ∀ (h : b < xs.toList.length), xs.toList[b] ≠ j := fun h e => hn (by rw [← Array.getElem?_toList, List.getElem?_eq_getElem h, e])
  unfold Ris
  rw [List.pairwise_append]
  refine ⟨hr.take, ?_, fun a ha c hc => ?_⟩
  · rw [List.pairwise_cons]
    refine ⟨fun c hc => ?_, hr.drop⟩
    obtain ⟨k, hk, rfl⟩ := List.mem_iff_getElem.mp hc
    rw [List.length_drop] at hk
    rw [List.getElem_drop]
    have h1 := hb.hi (b + k) (by omega) (by omega)
    by_cases e : k = 0
    · subst e
      have := hn' (by omega)
      simp only [Nat.add_zero] at h1 ⊢
      omega
    · have := ris_at hr (by omega : b < b + k) (by omega)
      have := hb.hi b (by omega) (Nat.le_refl _)
      omega
  · obtain ⟨k, hk, rfl⟩ := List.mem_iff_getElem.mp ha
    rw [List.length_take] at hk
    rw [List.getElem_take]
    have h1 := hb.lo k (by omega) (by omega)
    rcases List.mem_cons.mp hc with rfl | hc
    · exact h1
    · obtain ⟨m, hm, rfl⟩ := List.mem_iff_getElem.mp hc
      rw [List.length_drop] at hm
      rw [List.getElem_drop]
      have := hb.hi (b + m) (by omega) (by omega)
      omega
theorem below_next {xs : Array Nat} (hr : Ris xs.toList) {i : Nat} (hi : i ≤ xs.toList.length) : SetTable.below xs (if h : 0 < i then xs.toList[i - 1]'(by omega) + 1 else 0) = i := by
  refine bel_eq (below_ok hr _) ⟨hi, fun k hk hlt => ?_, fun k hk hle => ?_⟩
  · rw [dif_pos (by omega)]
    by_cases e : k = i - 1
    · subst e; exact Nat.lt_succ_self _
    · have := ris_at hr (by omega : k < i - 1) (by omega)
      omega
  · split
    · rename_i h0
      have := ris_at hr (by omega : i - 1 < k) hk
      omega
    · exact Nat.zero_le _

structure TOk (led : Bool) (t : SetTable) : Prop where
  ris : Ris t.place.toList
  dum : t.dummies = #[]
  led : t.led = led
theorem tok_fresh {led : Bool} : TOk led (.fresh 0 0 led) := ⟨by simp [SetTable.fresh, Ris], rfl, rfl⟩
theorem ris_range (n : Nat) : Ris (Array.range n).toList := by
  unfold Ris
  rw [Array.toList_range]
  exact List.pairwise_lt_range
theorem tok_standIn {led : Bool} {t : SetTable} (h : TOk led t) (n : Nat) : TOk led (t.standIn n) := ⟨ris_range n, rfl, h.led⟩
theorem tok_plain {led : Bool} {t : SetTable} (h : TOk led t) : TOk led { t with plain := false } := ⟨h.ris, h.dum, h.led⟩
theorem has_nil (j : Nat) : SetTable.has #[] j = false := by simp [SetTable.has]
theorem slot_empty {t : SetTable} (hd : t.dummies = #[]) {j : Nat} : (t.slot j = .empty → t.place[SetTable.below t.place j]? ≠ some j) ∧ t.slot j ≠ .dummy := by
  unfold SetTable.slot
  rw [hd, has_nil]
  dsimp only
  split
  · exact ⟨fun z => (by cases z), fun z => (by cases z)⟩
  · rename_i q
    simp only [Bool.false_eq_true, if_false]
    exact ⟨fun _ => (by simpa using q), fun z => (by cases z)⟩
theorem probe_go {t : SetTable} (hd : t.dummies = #[]) {ha : Nat → Int} {h : Int} : ∀ (f : Nat) (p : SetTable.Probe) {j : Nat} {dm : Option Nat}, p.dummy = none → SetTable.probe.go t ha h f p = some (.empty j dm) → dm = none ∧ t.slot j = .empty
  | 0, p, j, dm, _, e => by unfold SetTable.probe.go at e; cases e
  | f + 1, p, j, dm, hp, e => by
    have adv : (t.advance p).dummy = none := by
      unfold SetTable.advance
      split <;> exact hp
    unfold SetTable.probe.go at e
    split at e
    · rename_i q
      cases e
      exact ⟨hp, q⟩
    · rename_i q
      exact absurd q (slot_empty hd).2
    · rename_i i q
      split at e
      · cases e
      · exact probe_go hd f _ adv e
theorem tok_lay {led : Bool} {t : SetTable} (h : TOk led t) (es : Array (Int × Value)) (k : Int) (x : Value) : TOk led (layNew t es k x).2.1 := by
  unfold layNew
  split
  · rename_i slot wd q
    unfold SetTable.freeSlot at q
    split at q
    · rename_i j dm e
      cases q
      obtain ⟨rfl, hs⟩ := probe_go h.dum _ _ rfl e
      have hn := (slot_empty h.dum).1 hs
      dsimp only [Option.getD_none]
      have hp : TOk led (t.put j).1 := ⟨ris_put h.ris hn, by show (if SetTable.has t.dummies j = true then _ else t.dummies) = #[]; rw [h.dum, has_nil]; rfl, h.led⟩
      unfold SetTable.orStandIn
      split
      · exact hp
      · exact tok_standIn hp _
    · cases q
  · exact tok_standIn h _
theorem tok_relay {led : Bool} {t : SetTable} (h : TOk led t) (es : Array (Int × Value)) (n : Nat) : TOk led (relayAll t es n).2.1 := by
  unfold relayAll
  split
  · rename_i t' order q
    dsimp only
    split
    · unfold SetTable.relaid SetTable.laid at q
      cases e : SetTable.layClean (SetTable.sizeAbove n - 1) (es.map (·.1)) with
      | none => rw [e] at q; cases q
      | some owner =>
        rw [e] at q
        cases q
        refine ⟨?_, rfl, h.led⟩
        show Ris (((List.range (SetTable.sizeAbove n - 1 + 1)).filterMap fun j => (owner.getD j none).map (j, ·)).map (·.1))
        have sub : ∀ l : List Nat, ((l.filterMap fun j => (owner.getD j none).map (j, ·)).map (·.1)).Sublist l := by
          intro l
          induction l with
          | nil => exact List.Sublist.refl _
          | cons a r ih =>
            rw [List.filterMap_cons]
            cases owner.getD a none with
            | none => exact ih.cons _
            | some v => exact ih.cons₂ _
        exact List.Pairwise.sublist (sub _) List.pairwise_lt_range
    · exact tok_standIn h _
  · exact tok_standIn h _
end L3

namespace L3
open PySem PySem.Spec PyProof.Rows L2

section
variable {prog : Program} {w : World} {κ : Type} [DecidableEq κ] (knd : KeyKind prog w κ) (kf : Value → κ)
structure SObj (led : Bool) (o : Obj) (ks : List κ) (es : Array (Int × Value)) (ep : Nat) (t : SetTable) : Prop where
  ex : o.ExactSet
  dat : o.data = .set es ep t
  el : ElemsOf knd es.toList
  fit : t.fits es.size = true
  tok : TOk led t
  key : (es.toList.map fun e => kf e.2).Perm ks
def SetI (led : Bool) (h : Heap) (a : Addr) (ks : List κ) : Prop := ∃ o es ep t, h.get? a = some o ∧ SObj knd kf led o ks es ep t
def insK (ks : List κ) (k : κ) : List κ := if k ∈ ks then ks else ks ++ [k]
variable {knd kf} (hkf : ∀ k v, knd.is k v = true → kf v = k)
include hkf
theorem key_mem {es : List (Int × Value)} (el : ElemsOf knd es) {k : κ} : k ∈ es.map (fun e => kf e.2) ↔ ∃ e ∈ es, knd.is k e.2 = true := by
  rw [List.mem_map]
  constructor
  · rintro ⟨e, he, rfl⟩
    obtain ⟨⟨k', hk', _⟩, _⟩ := el e he
    exact ⟨e, he, by rw [hkf k' _ hk']; exact hk'⟩
  · rintro ⟨e, he, hk⟩
    exact ⟨e, he, hkf k _ hk⟩
variable {A : Around} {E : Value → Shared → Prop} {s : Shared} {a : Addr} {ks : List κ} {led : Bool}
theorem put_get {h : Heap} {o : Obj} {es : Array (Int × Value)} {ep : Nat} {t : SetTable} (hg : h.get? a = some o) (hd : o.data = .set es ep t) (es' : Array (Int × Value)) (t' : SetTable) :
    (h.update a (Obj.putSet es' t')).get? a = some { o with data := .set es' (ep + 1) t' } := by
  have z := Heap.get?_update_self (Obj.putSet es' t') hg (by rw [putSet_of es' t' hd]; rfl)
  rwa [putSet_of es' t' hd] at z
omit hkf in
theorem SObj.put {o : Obj} {es : Array (Int × Value)} {ep : Nat} {t : SetTable} (S : SObj knd kf led o ks es ep t) {ks' : List κ} {es' : Array (Int × Value)} {t' : SetTable} (el : ElemsOf knd es'.toList) (fit : t'.fits es'.size = true) (tok : TOk led t') (key : (es'.toList.map fun e => kf e.2).Perm ks') :
    SObj knd kf led { o with data := .set es' (ep + 1) t' } ks' es' (ep + 1) t' := ⟨S.ex, rfl, el, fit, tok, key⟩
theorem add_ok {k : κ} {x : Value} {Q : Bool → Shared → Prop} (hx : knd.is k x = true) (hsc : x.scannable = true) (S : SetI knd kf led s.heap a ks) (hb : ks.length + 1 < scanBound)
    (h : ∀ b h', Heap.SameBut a s.heap h' → SetI knd kf led h' a (insK ks k) → Q b { s with heap := h' }) : wpAny (model prog w) A (setAddHashed a x (knd.hash k)) Q E s := by
  obtain ⟨o, es, ep, t, hg, S⟩ := S
  have hsz : es.size = ks.length := by
    have := S.key.length_eq
    simpa using this
  have hmem := key_mem hkf S.el (k := k)
  unfold setAddHashed setAddHashedIn
  refine wpAny_holding (vs := [x]) (wpAny_bind (m := setState a) (wpAny_setState_of hg S.dat S.fit ?_))
  dsimp only
  rw [byScan_of hsc (by omega : es.size < scanBound) S.el]
  simp only [↓reduceIte]
  unfold setAddByScan
  refine wpAny_bind (wpAny_bind (m := rule _) (wpAny_rule (wpAny_bind (m := setScan a x _ _ _) (wpAny_setScan_of hx hg S.dat S.fit S.el ?_))))
  cases hr : List.findIdx? (fun e => knd.is k e.2) es.toList with
  | some j =>
    dsimp only
    obtain ⟨hj, hpj, _⟩ := List.findIdx?_eq_some_iff_getElem.mp hr
    have hk : k ∈ ks := S.key.mem_iff.mp (hmem.mpr ⟨_, List.getElem_mem hj, hpj⟩)
    refine wpAny_pure (α := _) (wpAny_pure (α := _) ?_)
    have z := h false s.heap (Heap.SameBut.refl a s.heap) ⟨o, es, ep, t, hg, by unfold insK; rw [if_pos hk]; exact S⟩
    exact z
  | none =>
    dsimp only
    have hk : k ∉ ks := fun q => by
      obtain ⟨e, he, hp⟩ := hmem.mp (S.key.mem_iff.mpr q)
      have := List.findIdx?_eq_none_iff.mp hr e he
      rw [hp] at this; cases this
    have hperm := layNew_perm t es (knd.hash k) x
    have hfits := layNew_fits t es (knd.hash k) x
    have htok := tok_lay S.tok es (knd.hash k) x
    generalize layNew t es (knd.hash k) x = lay at hperm hfits htok ⊢
    obtain ⟨es1, t1, wd, gave⟩ := lay
    dsimp only at hperm hfits htok ⊢
    rw [Array.toList_push] at hperm
    have el1 : ElemsOf knd es1.toList := (S.el.push hx hsc).perm hperm
    have key1 : (es1.toList.map fun e => kf e.2).Perm (insK ks k) := by
      unfold insK
      rw [if_neg hk]
      refine (hperm.map _).trans ?_
      rw [List.map_append]
      refine List.Perm.append S.key ?_
      show [kf x].Perm [k]
      rw [hkf k x hx]
    have sz1 : es1.size = es.size + 1 := by
      have := hperm.length_eq
      simpa using this
    have line1 : es1.size ≤ sizeLine := fits_of_scanBound (by omega)
    have gw : ∀ (b : Bool) {s₁ : Shared} {Q' : Unit → Shared → Prop}, Q' () s₁ → wpAny (model prog w) A (match b with | true => rule "set.scan.the-table-gave-way" | false => pure ()) Q' E s₁ :=
      fun b s₁ Q' q => by
        cases b with
        | true => exact wpAny_rule q
        | false => exact wpAny_pure (α := _) q
    have tail : ∀ t2 : SetTable, t2.fits es1.size = true → TOk led t2 → wpAny (model prog w) A (do
        storeSet a es1 t2
        if (!wd && t2.tooFull) = true then do
            (match (relayAll t2 es1 (SetTable.grown es1.size)).2.2 with | true => rule "set.scan.the-table-gave-way" | false => pure ())
            storeSet a (relayAll t2 es1 (SetTable.grown es1.size)).1 (relayAll t2 es1 (SetTable.grown es1.size)).2.1
            pure (some true)
          else pure (some true)) (fun r s' => wpAny (model prog w) A (match r with | some added => pure added | none => setAddHashedIn a x (knd.hash k) 99999) Q E s') E s := by
      intro t2 f2 k2
      refine wpAny_bind (m := storeSet a es1 t2) (wpAny_storeSet_of hg S.dat ?_ line1)
      have g1 := put_get (hkf := hkf) hg S.dat es1 t2
      have S1 := S.put (ks' := insK ks k) el1 f2 k2 key1
      have sb1 := Heap.SameBut.update s.heap a (Obj.putSet es1 t2)
      split
      · have hp2 := relayAll_perm t2 es1 (SetTable.grown es1.size)
        have hf2 := relayAll_fits t2 es1 (SetTable.grown es1.size)
        have ht2 := tok_relay k2 es1 (SetTable.grown es1.size)
        generalize relayAll t2 es1 (SetTable.grown es1.size) = rl at hp2 hf2 ht2 ⊢
        obtain ⟨es2, t3, gave2⟩ := rl
        dsimp only at hp2 hf2 ht2 ⊢
        have sz2 : es2.size = es1.size := by
          have := hp2.length_eq
          simpa using this
        refine wpAny_bind (gw gave2 ?_)
        refine wpAny_bind (m := storeSet a es2 t3) (wpAny_storeSet_of g1 rfl ?_ (by omega))
        have S2 := S1.put (ks' := insK ks k) (el1.perm hp2) hf2 ht2 ((hp2.map _).trans key1)
        refine wpAny_pure (α := _) (wpAny_pure (α := _) ?_)
        exact h true _ (sb1.trans (Heap.SameBut.update _ a _)) ⟨_, _, _, _, put_get (hkf := hkf) g1 rfl es2 t3, S2⟩
      · exact wpAny_pure (α := _) (wpAny_pure (α := _) (h true _ sb1 ⟨_, _, _, _, g1, S1⟩))
    refine wpAny_bind (gw gave ?_)
    split
    · refine wpAny_bind ?_
      rw [hashByValue_scannable 8 hsc]
      refine wpAny_pure (α := _) ?_
      refine tail _ ?_ ?_
      · split
        · exact hfits
        · exact SetTable.fits_plain_off hfits
      · split
        · exact htok
        · exact tok_plain htok
    · refine wpAny_bind (wpAny_pure (α := _) ?_)
      simp only [↓reduceIte]
      exact tail _ hfits htok
end
end L3

namespace L3
open PySem PySem.Spec PyProof.Rows L2

abbrev ledOf (w : World) : Bool := !(w.params.followText "set-order")
abbrev newSetO (w : World) : Obj := { cls := .type "set", dict := none, data := .set #[] 0 (.fresh 0 0 (ledOf w)) }
def metK {κ : Type} [DecidableEq κ] (val : Nat → κ) : Nat → List κ
  | 0 => []
  | i + 1 => insK (metK val i) (val i)
theorem metK_len {κ : Type} [DecidableEq κ] (val : Nat → κ) : ∀ i, (metK val i).length ≤ i
  | 0 => Nat.le_refl _
  | i + 1 => by
    have ih := metK_len val i
    show (insK (metK val i) (val i)).length ≤ i + 1
    unfold insK
    split
    · omega
    · rw [List.length_append, List.length_singleton]; omega
theorem metK_mem {κ : Type} [DecidableEq κ] (val : Nat → κ) {k : κ} : ∀ {i}, k ∈ metK val i ↔ ∃ j, j < i ∧ val j = k
  | 0 => by simp [metK]
  | i + 1 => by
    have ih := metK_mem val (k := k) (i := i)
    have e : k ∈ metK val (i + 1) ↔ k ∈ metK val i ∨ k = val i := by
      show k ∈ insK (metK val i) (val i) ↔ _
      unfold insK
      split
      · rename_i q
        constructor
        · exact .inl
        · rintro (z | rfl)
          · exact z
          · exact q
      · rw [List.mem_append, List.mem_singleton]
    rw [e, ih]
    constructor
    · rintro (⟨j, hj, rfl⟩ | rfl)
      · exact ⟨j, by omega, rfl⟩
      · exact ⟨i, by omega, rfl⟩
    · rintro ⟨j, hj, rfl⟩
      by_cases q : j = i
      · subst q; exact .inr rfl
      · exact .inl ⟨j, by omega, rfl⟩
theorem metK_nodup {κ : Type} [DecidableEq κ] (val : Nat → κ) : ∀ i, (metK val i).Nodup
  | 0 => List.nodup_nil
  | i + 1 => by
    have ih := metK_nodup val i
    show (insK (metK val i) (val i)).Nodup
    unfold insK
    split
    · exact ih
    · rename_i q
      rw [List.nodup_append]
      refine ⟨ih, by simp, fun a ha b hb => ?_⟩
      rw [List.mem_singleton] at hb
      subst hb
      exact fun z => q (z ▸ ha)
theorem sobj_new {prog : Program} {w : World} {κ : Type} [DecidableEq κ] {knd : KeyKind prog w κ} {kf : Value → κ} : SObj knd kf (ledOf w) (newSetO w) [] #[] 0 (.fresh 0 0 (ledOf w)) :=
  ⟨⟨rfl, rfl, rfl⟩, rfl, fun e he => by simp at he, by rfl, tok_fresh, by simp⟩
section
variable {prog : Program} {w : World} {κ : Type} [DecidableEq κ] {knd : KeyKind prog w κ} {kf : Value → κ} (hkf : ∀ k v, knd.is k v = true → kf v = k)
theorem SetI.stay {led : Bool} {h h' : Heap} {a : Addr} {ks : List κ} (S : SetI knd kf led h a ks) (e : ∀ o, h.get? a = some o → h'.get? a = some o) : SetI knd kf led h' a ks := by
  obtain ⟨o, es, ep, t, hg, S⟩ := S
  exact ⟨o, es, ep, t, e o hg, S⟩
include hkf
theorem upd_loop {A : Around} {R : Result → Shared → Prop} {I : Addr} {fp wr : List Addr} {G : Array GenState → Array GenState → Prop} {n : Nat} {P : Nat → Value → Prop} {St : Nat → Shared → Prop}
    (W : WalksS prog w A.in1 I fp wr G n P St) {S : Addr} (hS : S ∉ fp) {val : Nat → κ} (hv : ∀ i v, P i v → knd.is (val i) v = true ∧ v.scannable = true) (hb : n + 1 < scanBound) {led : Bool} :
    ∀ (j i : Nat) (s : Shared), i + j = n → St i s → SetI knd kf led s.heap S (metK val i) →
      (∀ s', Moved (S :: wr) G s s' → SetI knd kf led s'.heap S (metK val n) → R (.ok (.ret .none)) s') → codeAny (model prog w) A (.builtin "set.update.loop" ⟨[.ref S, .ref I], []⟩) R s := by
  have hw : S ∉ wr := fun q => hS (W.sub _ q)
  have grow : ∀ b ∈ wr, b ∈ S :: wr := fun b q => List.mem_cons_of_mem _ q
  intro j
  induction j with
  | zero =>
    intro i s hij st hs hR
    obtain rfl : i = n := by omega
    refine codeAny_builtin PyProof.Rows.F.entry_set_update_loop ?_
    rw [Around.under_plainId PyProof.Rows.F.plain_set_update_loop _]
    show wpAny _ _ (pyNext (.ref I) >>= _) _ _ _
    refine wpAny_bind (m := pyNext (.ref I)) (W.done s _ _ st fun s' hm => ?_)
    show wpAny _ _ (ret Value.none) _ _ _
    exact wpAny_pure (α := _) (hR s' (hm.mono grow) (hs.stay fun o e => hm.heap S o hw e))
  | succ j ih =>
    intro i s hij st hs hR
    refine codeAny_builtin PyProof.Rows.F.entry_set_update_loop ?_
    rw [Around.under_plainId PyProof.Rows.F.plain_set_update_loop _]
    show wpAny _ _ (pyNext (.ref I) >>= _) _ _ _
    refine wpAny_bind (m := pyNext (.ref I)) (W.item i s _ _ (by omega) st fun v s1 hP st1 hm => ?_)
    obtain ⟨hk, hc⟩ := hv i v hP
    have hs1 := hs.stay (h' := s1.heap) fun o e => hm.heap S o hw e
    show wpAny _ _ (holding [v] (setAdd S v) >>= _) _ _ _
    refine wpAny_bind (m := holding [v] (setAdd S v)) (wpAny_holding (vs := [v]) ?_)
    unfold setAdd
    refine wpAny_holding (vs := [v]) (wpAny_bind (m := pyHash v) (knd.pyHash hk ?_))
    refine add_ok hkf (s := { s1 with toks := s1.toks + 1 }) hk hc hs1 (by have := metK_len val i; omega) fun _ h2 sb S2 => ?_
    refine wpAny_pure (α := _) ⟨plainId_quiet PyProof.Rows.F.plain_set_update_loop _, ih (i + 1) _ (by omega) (W.frame _ s1 h2 _ st1 (Nat.le_succ _) fun b hb o e => ?_) S2 fun s3 hm3 S3 => ?_⟩
    · exact (sb.2 b fun z => hS (z ▸ hb)).trans e
    · refine hR s3 (Moved.trans W.gtrans ((hm.mono grow).then_heap (Nat.le_succ _) fun b o hb e => ?_) hm3) S3
      exact (sb.2 b fun z => hb (z ▸ List.mem_cons_self)).trans e
end
section
variable {prog : Program} {w : World} {A : Around} {E : Value → Shared → Prop} {s : Shared}
theorem set_new_led (v : Value) {Q₁ : Value → Shared → Prop} (h : Q₁ (.ref s.heap.objs.size) { s with heap := s.heap.push (newSetO w) }) :
    codeAny (model prog w) A (.call (.builtin "set.__new__") ⟨[.type "set", v], []⟩) (wants Q₁ E) s := by
  refine codeAny_of_tree ?_
  show wpAny _ A.in1 (checkBuiltinCall "set.__new__" ⟨[.type "set", v], []⟩ >>= fun _ => again (.builtin "set.__new__" ⟨[.type "set", v], []⟩)) _ _ s
  refine wpAny_bind (wpAny_of_eq (PySem.F.newCall_set_1 v) (wpAny_pure (α := _) ⟨plainId_quiet PySem.F.plain_set_new _, codeAny_builtin PySem.F.entry_set_new ?_⟩))
  rw [Around.under_plainId PySem.F.plain_set_new _]
  unfold Builtin.«set.__new__» Builtin.Frozenset.newClass
  have hsub := sub_set_self
  obtain ⟨hp, g, d, tk, os⟩ := s
  dsimp only
  wp_walk
  refine wpAny_askSetting (wpAny_pure (α := _) ?_)
  dsimp only
  simp only [newObj]
  exact wpAny_bind (wpAny_alloc (wpAny_pure (α := _) (wpAny_pure (α := _) h)))
end
section
variable {prog : Program} {w : World} {κ : Type} [DecidableEq κ] {knd : KeyKind prog w κ} {kf : Value → κ} (hkf : ∀ k v, knd.is k v = true → kf v = k) {A : Around} {E : Value → Shared → Prop} {s : Shared}
include hkf
set_option maxHeartbeats 3200000 in
theorem set_of_list {l : Addr} {items : Array Value} {val : Nat → κ} {Q : Value → Shared → Prop} (hh : A.handled = none) (hl : s.heap.IsList l items) (hv : ∀ i v, items[i]? = some v → knd.is (val i) v = true ∧ v.scannable = true) (hb : items.size + 1 < scanBound)
    (h : ∀ (h' : Heap) (tk : Nat), SetI knd kf (ledOf w) h' s.heap.objs.size (metK val items.size) → (∀ b o, s.heap.get? b = some o → h'.get? b = some o) → Q (.ref s.heap.objs.size) { s with heap := h', toks := tk }) :
    wpAny (model prog w) A (call (.type "set") [.ref l]) Q E s := by
  obtain ⟨c, tl, hmro⟩ := PySem.F.called_set.mro
  have hmade := PySem.F.called_set.made
  have hsub := PySem.F.called_set.sub
  refine wpAny_call (codeAny_of_tree ?_)
  show wpAny _ _ (callAny (.type "set") _) _ _ _
  refine wpAny_pure (α := _) ⟨Code.quiet_builtin _ (by decide +kernel), codeAny_builtin PySem.F.entry_type_call ?_⟩
  rw [Around.under_plain (weight_type_call_type "set" [.ref l] []) rfl]
  have q1 := PySem.F.called_set.notType
  have q2 := PySem.F.called_set.canCreate
  have q3 := PySem.F.typeCall_set_1 (.ref l)
  (repeat (any_goals (first | assumption | wp_step))); skip
  refine codeAny_mono (set_new_led (.ref l) (E := E) (Q₁ := fun obj s₁ => obj = .ref s.heap.objs.size ∧ s₁ = { s with heap := s.heap.push (newSetO w) }) ⟨rfl, rfl⟩) fun r s₁ hr => ?_
  cases r with
  | error e => exact hr
  | ok fl =>
    cases fl with
    | ret obj =>
      obtain ⟨rfl, rfl⟩ := hr
      have hS : (s.heap.push (newSetO w)).get? s.heap.objs.size = some (newSetO w) := Heap.get?_push_size _ rfl
      have hT : Shared.TypeIs { s with heap := s.heap.push (newSetO w) } (.ref s.heap.objs.size) "set" := ⟨_, hS, rfl⟩
      have q4 := PySem.F.called_set.init.lookup
      have q5 := PySem.F.called_set.init.bind (.ref s.heap.objs.size)
      (repeat (any_goals (first | assumption | wp_step))); skip
      refine codeAny_mono (codeAny_call_builtin (R := wants (fun r s₂ => r = .none ∧ ∃ h' tk, s₂ = { s with heap := h', toks := tk } ∧ SetI knd kf (ledOf w) h' s.heap.objs.size (metK val items.size) ∧
          ∀ b o, s.heap.get? b = some o → h'.get? b = some o) E) PySem.F.called_set.init.plain PySem.F.entry_set_init (check_set_init_1 hT ?_)) fun r₂ s₂ hr₂ => ?_
      · obtain ⟨ol, hol, hcl, nl, hdl⟩ := hl
        obtain ⟨oc, od, ot, os⟩ := ol
        simp only at hcl hdl
        subst hcl; subst hdl
        have hol' : (s.heap.push (newSetO w)).get? l = some { cls := .type "list", dict := od, data := .seq items nl, slots := os } := Heap.get?_push_of_some _ hol
        have q6 := PySem.F.sub_list_set
        have q7 := PySem.F.sub_list_frozenset
        have q8 : (Value.type "list" == Value.type "dict") = false := by decide
        have hl1 : (s.heap.push (newSetO w)).IsList l items := ⟨_, hol', rfl, nl, rfl⟩
        unfold Builtin.«set.__init__» noKeywords Builtin.Frozenset.updateFrom
        generalize hPI : pyIter = PI
        wp_walk
        subst hPI
        refine wpAny_pyIter_list hl1 (wpAny_bind (wpAny_runValue ?_))
        have hlS : l < s.heap.objs.size := Heap.lt_size hol
        have hh3 : A.in1.in1.in1.handled = none := by simp [hh]
        have szp : (s.heap.push (newSetO w)).objs.size = s.heap.objs.size + 1 := Heap.size_push ..
        refine upd_loop hkf (led := ledOf w) ((Walks.list hh3 _ l (by rw [szp]; exact Nat.ne_of_lt (Nat.lt_succ_of_lt hlS)) items).toS) (S := s.heap.objs.size) ?_ hv hb items.size 0 _ (Nat.zero_add _)
          ⟨⟨_, Heap.get?_push_size _ rfl, rfl, rfl⟩, hl1.push _⟩ ⟨_, _, _, _, Heap.get?_push_of_some _ hS, sobj_new⟩ fun s' hm hS' => ?_
        · rw [szp]
          simp only [List.mem_cons, List.not_mem_nil, or_false, not_or]
          exact ⟨Nat.ne_of_lt (Nat.lt_succ_self _), Nat.ne_of_gt hlS⟩
        · obtain ⟨h', g', d', tk', os'⟩ := s'
          obtain rfl : g' = s.gens := hm.gens
          obtain rfl : d' = s.drawn := hm.drawn
          obtain rfl : os' = s.os := hm.os
          refine wpAny_pure (α := _) ?_
          show wpAny _ _ (ret Value.none) _ _ _
          refine wpAny_pure (α := _) ⟨rfl, h', tk', rfl, hS', fun b o e => ?_⟩
          have hlt := Heap.lt_size e
          refine hm.heap b o ?_ (Heap.get?_push_of_some _ (Heap.get?_push_of_some _ e))
          rw [szp]
          simp only [List.mem_cons, List.not_mem_nil, or_false, not_or]
          exact ⟨Nat.ne_of_lt hlt, Nat.ne_of_lt (Nat.lt_succ_of_lt hlt)⟩
      · cases r₂ with
        | error e => exact hr₂
        | ok fl₂ =>
          cases fl₂ with
          | ret r =>
            obtain ⟨rfl, h', tk, rfl, hS', hk'⟩ := hr₂
            (repeat (any_goals (first | assumption | wp_step))); skip
            exact h _ _ hS' hk'
          | _ => exact hr₂.elim
    | _ => exact hr.elim
end
end L3

namespace L3
open PySem PySem.Spec PyProof.Rows L2

theorem sl_sit : PySem.Slot "set_iterator" "__next__" "set_iterator.__next__" := .of (owner := "set_iterator") (n := "__next__") (by rw [typeLookup_type, builtinLookup_eq_fast]; kernel_rfl) (by decide +kernel) (by decide +kernel) (by decide +kernel) (by first | exact .inl (by decide +kernel) | exact .inr (by decide +kernel)) (by rw [isSubtype_type]; kernel_rfl)
theorem en_sit : entryFor table "set_iterator.__next__" = some Builtin.«set_iterator.__next__» := entryFor_of_tree (by kernel_rfl)
theorem ar_sit (v : Value) : argsOk "set_iterator.__next__" ⟨[v], []⟩ := by unfold argsOk; kernel_rfl
theorem en_siter : entryFor table "set.__iter__" = some Builtin.«frozenset.__iter__» := entryFor_alias (id' := "frozenset.__iter__") (by kernel_rfl) rfl (by decide +kernel) (by kernel_rfl)

def SIt (h : Heap) (I : Addr) (fst : Value) (i : Nat) (S : Addr) (n ep : Nat) : Prop := ∃ o, h.get? I = some o ∧ o.cls = .type "set_iterator" ∧ o.data = .fields #[fst, .int i 0, .ref S, .int n 0, .int ep 0]
theorem SIt.ty {s : Shared} {I S : Addr} {fst : Value} {i n ep : Nat} (x : SIt s.heap I fst i S n ep) : s.TypeIs (.ref I) "set_iterator" := let ⟨o, ho, hc, _⟩ := x; ⟨o, ho, hc⟩
theorem SIt.at {h h' : Heap} {I S : Addr} {fst : Value} {i n ep : Nat} (x : SIt h I fst i S n ep) (e : ∀ o, h.get? I = some o → h'.get? I = some o) : SIt h' I fst i S n ep := let ⟨o, ho, r⟩ := x; ⟨o, e o ho, r⟩

theorem era_perm {α : Type} {xs : List α} {i : Nat} (hi : i < xs.length) : (xs[i] :: xs.eraseIdx i).Perm xs := by
  rw [List.eraseIdx_eq_take_drop_succ]
  refine List.perm_middle.symm.trans ?_
  rw [← List.drop_eq_getElem_cons hi, List.take_append_drop]
section
variable {prog : Program} {w : World} {A : Around} {E : Value → Shared → Prop} {s : Shared}
theorem choose_ok {src : Source} {n : Nat} {Q : Nat → Shared → Prop} (hn : n ≠ 0) (h : ∀ i d, i < n → Q i { s with drawn := d }) : wpAny (model prog w) A (choose src n) Q E s := fun Γ p _ => by
  unfold choose
  rw [Sem.wp_choose]
  exact ⟨hn, h _ _ (Nat.mod_lt _ (Nat.pos_of_ne_zero hn))⟩
theorem drawOrder_ok {α : Type} (n : Nat) : ∀ (xs : List α) {s : Shared} {Q : List α → Shared → Prop}, xs.length = n → (∀ ys d, ys.Perm xs → Q ys { s with drawn := d }) → wpAny (model prog w) A (drawOrder n xs) Q E s := by
  induction n with
  | zero =>
    intro xs s Q hn h
    have : xs = [] := List.length_eq_zero_iff.mp hn
    subst this
    unfold drawOrder
    exact wpAny_pure (α := _) (h [] s.drawn (.refl _))
  | succ n ih =>
    intro xs s Q hn h
    cases xs with
    | nil => cases hn
    | cons x xs =>
    unfold drawOrder
    refine wpAny_bind (m := choose _ _) (choose_ok (by simp) fun i d hi => ?_)
    rw [List.getElem?_eq_getElem hi]
    dsimp only
    refine wpAny_bind (ih ((x :: xs).eraseIdx i) ?_ fun ys d' hp => wpAny_pure (α := _) (h _ d' ?_))
    · rw [List.length_eraseIdx_of_lt hi]; omega
    · refine (hp.cons _).trans ?_
      exact era_perm hi
section
variable {S I : Addr} {fst : Value} {i n ep : Nat} {o : Obj} {es : Array (Int × Value)} {t : SetTable}
theorem stop_ok {h0 : Heap} {Q : Option Value → Shared → Prop} (hh : A.handled = none) (hQ : ∀ h', Heap.ExtBut I h0 h' → Q none { s with heap := h' }) (hk : Heap.ExtBut I h0 s.heap) :
    wpAny (model prog w) A.in1 (newExc (.type "StopIteration") [] >>= fun e => (raiseNew e : Sem PySem.Fin)) (fun _ _ => False)
      (fun e s' => wpAny (model prog w) A (do if ← isInstance e (.type "StopIteration") then pure (none : Option Value) else throw e) Q E s') s := by
  refine wpAny_bind ?_
  simp only [newExc, newTuple]
  refine wpAny_bind (wpAny_newObj_type ?_ (by size_fits))
  refine wpAny_bind (m := firstArgMember _ _) (wpAny_of_eq (a := Value.none) (by first | rfl | (simp only [firstArgMember]; rfl)) ?_)
  refine wpAny_newObj_type ?_ (by size_fits)
  simp only [raiseNew]
  refine wpAny_bind (m := _) (wpAny_handled ?_)
  rw [show A.in1.handled = none by simp [hh]]
  refine wpAny_bind (wpAny_pure (α := _) (wpAny_throw (α := _) ?_))
  refine wpAny_bind (m := isInstance _ _) (wpAny_isInstance (T := "StopIteration") (b := true) ⟨_, Heap.get?_push_size _ rfl, rfl⟩ isSubtype_stop ?_)
  exact wpAny_pure (α := _) (hQ _ ((hk.push _).push _))
end
end
end L3

namespace L3
open PySem PySem.Spec PyProof.Rows L2

section
variable {prog : Program} {w : World} {κ : Type} [DecidableEq κ] {knd : KeyKind prog w κ} {kf : Value → κ} {A : Around} {E : Value → Shared → Prop} {s : Shared} {S I : Addr} {fst : Value} {i n ep : Nat} {o : Obj} {es : Array (Int × Value)} {t : SetTable} {led : Bool} {ks : List κ}
theorem next_head {Q : Option Value → Shared → Prop} (hit : SIt s.heap I fst i S n ep) (hg : s.heap.get? S = some o) (O : SObj knd kf led o ks es ep t) (hn : es.size = n)
    (h : wpAny (model prog w) A.in1 (if let .int slot _ := fst then do
        match ← setNext S slot.toNat i ep with
        | some (x, next) =>
          setField (.ref I) 0 (rawInt next)
          setField (.ref I) 1 (rawInt ((i : Int) + 1))
          ret x
        | none => setField (.ref I) 2 .none; raiseNew (← newExc (.type "StopIteration") [])
      else do
        let some places ← seqItems? fst | unsupported "internal:set_iterator"
        match places[i]? with
        | some (.int place _) =>
          let x ← setNextDrawn S place.toNat ep
          setField (.ref I) 1 (rawInt ((i : Int) + 1))
          ret x
        | some _ => unsupported "internal:set_iterator"
        | none => setField (.ref I) 0 (rawInt 0); setField (.ref I) 2 .none; raiseNew (← newExc (.type "StopIteration") []))
      (fun fin s' => ∃ r, fin = .done (.ret r) ∧ Q (some r) s')
      (fun e s' => wpAny (model prog w) A (do if ← isInstance e (.type "StopIteration") then pure (none : Option Value) else throw e) Q E s') s) :
    wpAny (model prog w) A (pyNext (.ref I)) Q E s := by
  obtain ⟨oi, ho, hc, hd⟩ := id hit
  unfold pyNext
  refine wpAny_bind (m := _) (wpAny_attempt (wpAny_callSpecial?_slot (name := Str.ofString "__next__") hit.ty sl_sit (wpAny_call_entry sl_sit hit.ty en_sit ?_ (ar_sit _))))
  unfold Builtin.«set_iterator.__next__»
  refine wpAny_bind (m := slotArgs _ _ _) (wpAny_pure (α := _) ?_)
  refine wpAny_bind (m := fieldsOf _) (wpAny_fieldsOf ho hd ?_)
  dsimp only
  refine wpAny_bind (m := setEntries S) (wpAny_setEntries_of hg O.dat O.fit ?_)
  rw [if_neg (by rw [hn]; simp)]
  refine wpAny_mono h (fun fin s' ⟨r, hr, hq⟩ => ⟨r, hr, wpAny_pure (α := _) hq⟩) fun e s' he => he
theorem byText_ok {Q : Bool → Shared → Prop} (h : Q (w.params.followText "set-order") s) : wpAny (model prog w) A setsByText Q E s := by
  unfold setsByText
  exact wpAny_bind (m := ask) (wpAny_askSetting (wpAny_pure (α := _) h))
theorem setNext_L {slot given e0 : Nat} {Q : Option (Value × Nat) → Shared → Prop} (hbt : w.params.followText "set-order" = false) (hg : s.heap.get? S = some o) (O : SObj knd kf true o ks es ep t) (hdr : (!t.plain && decide (es.size > 1)) = false)
    (h : Q (match es[SetTable.below t.place slot]?, t.place[SetTable.below t.place slot]? with | some (_, x), some j => some (x, j + 1) | _, _ => none) s) : wpAny (model prog w) A (setNext S slot given e0) Q E s := by
  unfold setNext
  refine wpAny_bind (m := setState S) (wpAny_setState_of hg O.dat O.fit ?_)
  dsimp only
  refine wpAny_bind (m := setsByText) (byText_ok ?_)
  rw [hbt, if_neg Bool.false_ne_true, if_neg (fun z => by have z' : (!t.plain && decide (es.size > 1)) = true := z; rw [hdr] at z'; cases z')]
  refine wpAny_bind (m := _) ?_
  show wpAny _ _ (if (!t.led && !es.isEmpty) = true then _ else pure PUnit.unit) _ _ _
  rw [O.tok.led, if_neg (by simp)]
  exact wpAny_pure (α := _) (wpAny_pure (α := _) h)
theorem setNext_T {slot given : Nat} {Q : Option (Value × Nat) → Shared → Prop} (hbt : w.params.followText "set-order" = true) (hg : s.heap.get? S = some o) (O : SObj knd kf led o ks es ep t)
    (h : Q ((pickOrder (w.params.setOrder S ep) es)[given]?.map fun e => (e.2, slot)) s) : wpAny (model prog w) A (setNext S slot given ep) Q E s := by
  unfold setNext
  refine wpAny_bind (m := setState S) (wpAny_setState_of hg O.dat O.fit ?_)
  dsimp only
  refine wpAny_bind (m := setsByText) (byText_ok ?_)
  rw [hbt, if_pos rfl, if_neg (by simp)]
  refine wpAny_bind (m := setWalk S) ?_
  unfold setWalk
  refine wpAny_bind (m := setState S) (wpAny_setState_of hg O.dat O.fit ?_)
  dsimp only
  refine wpAny_bind (m := setsByText) (byText_ok ?_)
  rw [hbt, if_pos rfl]
  exact wpAny_bind (m := ask) (wpAny_askSetting (wpAny_pure (α := _) (wpAny_pure (α := _) h)))
theorem setNext_D {p : Nat} {x : Int × Value} {Q : Value → Shared → Prop} (hg : s.heap.get? S = some o) (O : SObj knd kf led o ks es ep t) (hx : es[p]? = some x) (h : Q x.2 s) : wpAny (model prog w) A (setNextDrawn S p ep) Q E s := by
  unfold setNextDrawn
  refine wpAny_bind (m := setState S) (wpAny_setState_of hg O.dat O.fit ?_)
  dsimp only
  rw [if_neg (by simp), hx]
  exact wpAny_pure (α := _) h
theorem setDrawn_ok {Q : Bool → Shared → Prop} (hg : s.heap.get? S = some o) (O : SObj knd kf led o ks es ep t) (h : Q (!w.params.followText "set-order" && (!t.plain && decide (es.size > 1))) s) : wpAny (model prog w) A (setDrawn S) Q E s := by
  unfold setDrawn
  refine wpAny_bind (m := setState S) (wpAny_setState_of hg O.dat O.fit ?_)
  dsimp only
  refine wpAny_bind (m := setsByText) (byText_ok ?_)
  exact wpAny_pure (α := _) h
theorem pick_go {α : Type} (nx : Nat → Nat) : ∀ (f k : Nat) (l : List α) (out : Array α), l.length = f → (pickOrder.go nx f k l out).toList.Perm (out.toList ++ l)
  | 0, k, l, out, hl => by
    unfold pickOrder.go
    rw [List.length_eq_zero_iff.mp hl]
    simp
  | f + 1, k, l, out, hl => by
    unfold pickOrder.go
    have hi : nx k % l.length < l.length := Nat.mod_lt _ (by omega)
    rw [List.getElem?_eq_getElem hi]
    dsimp only
    refine (pick_go nx f (k + 1) (l.eraseIdx (nx k % l.length)) _ (by rw [List.length_eraseIdx_of_lt hi]; omega)).trans ?_
    rw [Array.toList_push, List.append_assoc]
    exact List.Perm.append_left _ (era_perm hi)
theorem pick_perm {α : Type} (nx : Nat → Nat) (xs : Array α) : (pickOrder nx xs).toList.Perm xs.toList := by
  unfold pickOrder
  exact pick_go nx _ 0 _ #[] (by simp)
end
end L3

namespace L3
open PySem PySem.Spec PyProof.Rows L2

theorem sl_sii : PySem.Slot "set_iterator" "__iter__" "set_iterator.__iter__" := .of (owner := "set_iterator") (n := "__iter__") (by rw [typeLookup_type, builtinLookup_eq_fast]; kernel_rfl) (by decide +kernel) (by decide +kernel) (by decide +kernel) (by first | exact .inl (by decide +kernel) | exact .inr (by decide +kernel)) (by rw [isSubtype_type]; kernel_rfl)
theorem en_sii : entryFor table "set_iterator.__iter__" = some Builtin.«dict_keyiterator.__iter__» := entryFor_alias (id' := "dict_keyiterator.__iter__") (by kernel_rfl) rfl (by decide +kernel) (by kernel_rfl)
theorem ar_sii (v : Value) : argsOk "set_iterator.__iter__" ⟨[v], []⟩ := by unfold argsOk; kernel_rfl
theorem SIt.set0 {h : Heap} {I S : Addr} {fst : Value} {i n ep : Nat} (x : SIt h I fst i S n ep) (v : Value) : SIt (h.update I (Obj.mapFields (·.setIfInBounds 0 v))) I v i S n ep := by
  obtain ⟨o, ho, hc, hd⟩ := x
  exact ⟨_, Heap.get?_update_self _ ho (Obj.isFreed_of_fields (Obj.data_mapFields hd _)), (Obj.cls_mapFields ..).trans hc, by rw [Obj.data_mapFields hd]; simp⟩
theorem SIt.set1 {h : Heap} {I S : Addr} {fst : Value} {i n ep : Nat} (x : SIt h I fst i S n ep) : SIt (h.update I (Obj.mapFields (·.setIfInBounds 1 (rawInt ((i : Int) + 1))))) I fst (i + 1) S n ep := by
  obtain ⟨o, ho, hc, hd⟩ := x
  exact ⟨_, Heap.get?_update_self _ ho (Obj.isFreed_of_fields (Obj.data_mapFields hd _)), (Obj.cls_mapFields ..).trans hc, by rw [Obj.data_mapFields hd]; simp [rawInt]⟩
section
variable {prog : Program} {w : World} {κ : Type} [DecidableEq κ] {knd : KeyKind prog w κ} {kf : Value → κ}
structure Steps (prog : Program) (w : World) (A : Around) (I S : Addr) (n ep : Nat) (o : Obj) (ex : List (Addr × Obj)) (vals : List Value) (fst : Nat → Value) : Prop where
  item : ∀ i (s : Shared) (Q : Option Value → Shared → Prop) (E : Value → Shared → Prop), i < n → SIt s.heap I (fst i) i S n ep → s.heap.get? S = some o → (∀ p ∈ ex, s.heap.get? p.1 = some p.2) →
    (∀ v h', vals[i]? = some v → SIt h' I (fst (i + 1)) (i + 1) S n ep → Heap.SameBut I s.heap h' → Q (some v) { s with heap := h' }) → wpAny (model prog w) A (pyNext (.ref I)) Q E s
  done : ∀ (s : Shared) (Q : Option Value → Shared → Prop) (E : Value → Shared → Prop), SIt s.heap I (fst n) n S n ep → s.heap.get? S = some o → (∀ p ∈ ex, s.heap.get? p.1 = some p.2) →
    (∀ h', Heap.ExtBut I s.heap h' → Q none { s with heap := h' }) → wpAny (model prog w) A (pyNext (.ref I)) Q E s
theorem walks_set {A : Around} {I S : Addr} {n ep : Nat} {o : Obj} {ex : List (Addr × Obj)} {vals : List Value} {fst : Nat → Value} (T : Steps prog w A I S n ep o ex vals fst) (hS : S ≠ I) (hX : ∀ p ∈ ex, p.1 ≠ I) :
    Walks prog w A I (I :: S :: ex.map (·.1)) [I] n (fun i v => vals[i]? = some v) (fun i h => SIt h I (fst i) i S n ep ∧ h.get? S = some o ∧ ∀ p ∈ ex, h.get? p.1 = some p.2) where
  sub := fun b hb => by simp at hb; simp [hb]
  frame := fun i h h' st hk => ⟨st.1.at fun o e => hk I (by simp) o e, hk S (by simp) o st.2.1, fun p hp => hk p.1 (by simp only [List.mem_cons, List.mem_map]; exact .inr (.inr ⟨p, hp, rfl⟩)) p.2 (st.2.2 p hp)⟩
  item := fun i s Q E hi st hQ => T.item i s Q E hi st.1 st.2.1 st.2.2 fun v h' hv st' sb => hQ v h' s.toks hv ⟨st', (sb.2 S hS).trans st.2.1, fun p hp => (sb.2 p.1 (hX p hp)).trans (st.2.2 p hp)⟩ fun b o hb e => (sb.2 b fun z => hb (by simp [z])).trans e
  done := fun s Q E st hQ => T.done s Q E st.1 st.2.1 st.2.2 fun h' eb => hQ h' s.toks fun b o hb e => eb b o (fun z => hb (by simp [z])) e
  self := fun i s Q E st hQ => by
    refine wpAny_pyIter_slot st.1.ty sl_sii (wpAny_call_entry sl_sii st.1.ty en_sii ?_ (ar_sii _))
    show wpAny _ _ (ret (.ref I)) _ _ _
    exact wpAny_pure (α := _) ⟨_, rfl, "set_iterator", _, st.1.ty, sl_sit.lookup, hQ⟩
variable {A : Around} {I S : Addr} {n ep : Nat} {o : Obj} {es : Array (Int × Value)} {t : SetTable} {ks : List κ}
def slotL (t : SetTable) (i : Nat) : Nat := if h : 0 < i ∧ i ≤ t.place.toList.length then t.place.toList[i - 1]'(by omega) + 1 else 0
theorem below_slotL (hr : Ris t.place.toList) {i : Nat} (hi : i ≤ t.place.toList.length) : SetTable.below t.place (slotL t i) = i := by
  have := below_next hr hi
  unfold slotL
  by_cases h0 : 0 < i
  · rw [dif_pos ⟨h0, hi⟩]
    rw [dif_pos h0] at this
    exact this
  · rw [dif_neg (fun z => h0 z.1)]
    rw [dif_neg h0] at this
    exact this
theorem fits_len {t : SetTable} {n : Nat} (h : t.fits n = true) : t.place.toList.length = n := by
  simp only [SetTable.fits, Bool.and_eq_true, beq_iff_eq] at h
  simpa using h.1
theorem steps_L (hh : A.handled = none) (hbt : w.params.followText "set-order" = false) (O : SObj knd kf true o ks es ep t) (hdr : (!t.plain && decide (es.size > 1)) = false) :
    Steps prog w A I S es.size ep o [] (es.toList.map (·.2)) fun i => .int (slotL t i) 0 where
  item := fun i s Q E hi hit hg _ hQ => by
    have hl := fits_len O.fit
    have hb := below_slotL O.tok.ris (i := i) (by omega)
    have hp : i < t.place.size := by simpa using (by omega : i < t.place.toList.length)
    refine next_head hit hg O rfl ?_
    refine wpAny_bind (m := setNext _ _ _ _) (setNext_L (ep := ep) hbt hg O hdr ?_)
    rw [show ((slotL t i : Nat) : Int).toNat = slotL t i from Int.toNat_natCast _, hb, Array.getElem?_eq_getElem hi, Array.getElem?_eq_getElem hp]
    dsimp only
    obtain ⟨oi, h1, h2, h3⟩ := id hit
    refine wpAny_bind (m := setField _ _ _) (wpAny_setField h1 h3 (by simp) ?_)
    have hit2 := hit.set0 (rawInt (t.place[i] + 1 : Nat))
    obtain ⟨oj, g1, g2, g3⟩ := id hit2
    refine wpAny_bind (m := setField _ _ _) (wpAny_setField g1 g3 (by simp) ?_)
    refine wpAny_pure (α := _) ⟨_, rfl, hQ _ _ (by simp [hi]) ?_ ((Heap.SameBut.update s.heap I _).trans (Heap.SameBut.update _ I _))⟩
    have e : (Value.int (slotL t (i + 1)) 0) = rawInt (t.place[i] + 1 : Nat) := by
      unfold slotL
      rw [dif_pos ⟨by omega, by omega⟩]
      simp [rawInt]
    rw [e]
    exact hit2.set1
  done := fun s Q E hit hg _ hQ => by
    have hl := fits_len O.fit
    have hb := below_slotL O.tok.ris (i := es.size) (by omega)
    refine next_head hit hg O rfl ?_
    refine wpAny_bind (m := setNext _ _ _ _) (setNext_L (ep := ep) hbt hg O hdr ?_)
    rw [show ((slotL t es.size : Nat) : Int).toNat = slotL t es.size from Int.toNat_natCast _, hb, Array.getElem?_eq_none (Nat.le_refl _)]
    dsimp only
    obtain ⟨oi, h1, h2, h3⟩ := id hit
    refine wpAny_bind (m := setField _ _ _) (wpAny_setField h1 h3 (by simp) ?_)
    exact wpAny_mono (stop_ok (I := I) hh hQ (Heap.SameBut.update s.heap I _).extBut) (fun _ _ q => q.elim) fun _ _ q => q
theorem steps_T {led : Bool} (hh : A.handled = none) (hbt : w.params.followText "set-order" = true) (O : SObj knd kf led o ks es ep t) :
    Steps prog w A I S es.size ep o [] ((pickOrder (w.params.setOrder S ep) es).toList.map (·.2)) fun _ => .int 0 0 where
  item := fun i s Q E hi hit hg _ hQ => by
    have hp := (pick_perm (w.params.setOrder S ep) es).length_eq
    simp only [Array.length_toList] at hp
    refine next_head hit hg O rfl ?_
    refine wpAny_bind (m := setNext _ _ _ _) (setNext_T hbt hg O ?_)
    have hi' : i < (pickOrder (w.params.setOrder S ep) es).size := by omega
    rw [Array.getElem?_eq_getElem hi']
    dsimp only [Option.map_some]
    obtain ⟨oi, h1, h2, h3⟩ := id hit
    refine wpAny_bind (m := setField _ _ _) (wpAny_setField h1 h3 (by simp) ?_)
    have hit2 := hit.set0 (rawInt ((0 : Nat) : Int))
    obtain ⟨oj, g1, g2, g3⟩ := id hit2
    refine wpAny_bind (m := setField _ _ _) (wpAny_setField g1 g3 (by simp) ?_)
    exact wpAny_pure (α := _) ⟨_, rfl, hQ _ _ (by simp [hi']) hit2.set1 ((Heap.SameBut.update s.heap I _).trans (Heap.SameBut.update _ I _))⟩
  done := fun s Q E hit hg _ hQ => by
    have hp := (pick_perm (w.params.setOrder S ep) es).length_eq
    simp only [Array.length_toList] at hp
    refine next_head hit hg O rfl ?_
    refine wpAny_bind (m := setNext _ _ _ _) (setNext_T hbt hg O ?_)
    rw [Array.getElem?_eq_none (by omega)]
    dsimp only [Option.map_none]
    obtain ⟨oi, h1, h2, h3⟩ := id hit
    refine wpAny_bind (m := setField _ _ _) (wpAny_setField h1 h3 (by simp) ?_)
    exact wpAny_mono (stop_ok (I := I) hh hQ (Heap.SameBut.update s.heap I _).extBut) (fun _ _ q => q.elim) fun _ _ q => q
theorem steps_D {led : Bool} (hh : A.handled = none) (O : SObj knd kf led o ks es ep t) {Tp : Addr} {ot : Obj} {ps : List Nat} (hps : ps.Perm (List.range es.size)) (hot : ∃ m, ot.data = .seq (ps.map fun (p : Nat) => rawInt p).toArray m) :
    Steps prog w A I S es.size ep o [(Tp, ot)] (ps.map fun p => (es.getD p (0, .none)).2) fun _ => .ref Tp where
  item := fun i s Q E hi hit hg hx hQ => by
    obtain ⟨m, hm⟩ := hot
    have hl : ps.length = es.size := by simpa using hps.length_eq
    have hi' : i < ps.length := by omega
    have hlt : ps[i] < es.size := List.mem_range.mp (hps.mem_iff.mp (List.getElem_mem hi'))
    refine next_head hit hg O rfl ?_
    show wpAny _ _ (seqItems? (.ref Tp) >>= _) _ _ _
    refine wpAny_bind (m := seqItems? _) (wpAny_seqItems (hx (Tp, ot) (by simp)) hm ?_)
    dsimp only
    have e : (ps.map fun (p : Nat) => rawInt p).toArray[i]? = some (.int (ps[i] : Nat) 0) := by simp [hi', rawInt]
    rw [e]
    dsimp only
    refine wpAny_bind (m := setNextDrawn _ _ _) (setNext_D (x := es[ps[i]]) hg O (by rw [Int.toNat_natCast]; exact Array.getElem?_eq_getElem hlt) ?_)
    obtain ⟨oi, h1, h2, h3⟩ := id hit
    refine wpAny_bind (m := setField _ _ _) (wpAny_setField h1 h3 (by simp) ?_)
    exact wpAny_pure (α := _) ⟨_, rfl, hQ _ _ (by simp [hi', hlt]) hit.set1 (Heap.SameBut.update s.heap I _)⟩
  done := fun s Q E hit hg hx hQ => by
    obtain ⟨m, hm⟩ := hot
    have hl : ps.length = es.size := by simpa using hps.length_eq
    refine next_head hit hg O rfl ?_
    show wpAny _ _ (seqItems? (.ref Tp) >>= _) _ _ _
    refine wpAny_bind (m := seqItems? _) (wpAny_seqItems (hx (Tp, ot) (by simp)) hm ?_)
    dsimp only
    have e : (ps.map fun (p : Nat) => rawInt p).toArray[es.size]? = none := by simp [hl]
    rw [e]
    dsimp only
    obtain ⟨oi, h1, h2, h3⟩ := id hit
    refine wpAny_bind (m := setField _ _ _) (wpAny_setField h1 h3 (by simp) ?_)
    have hit2 := hit.set0 (rawInt 0)
    obtain ⟨oj, g1, g2, g3⟩ := id hit2
    refine wpAny_bind (m := setField _ _ _) (wpAny_setField g1 g3 (by simp) ?_)
    exact wpAny_mono (stop_ok (I := I) hh hQ ((Heap.SameBut.update s.heap I _).trans (Heap.SameBut.update _ I _)).extBut) (fun _ _ q => q.elim) fun _ _ q => q
end
end L3

namespace L3
open PySem PySem.Spec PyProof.Rows L2

section
variable {prog : Program} {w : World} {κ : Type} [DecidableEq κ] {knd : KeyKind prog w κ} {kf : Value → κ} {A : Around} {E : Value → Shared → Prop} {s : Shared} {S : Addr} {ep : Nat} {o : Obj} {es : Array (Int × Value)} {t : SetTable} {ks : List κ}
structure Laid (knd : KeyKind prog w κ) (kf : Value → κ) (s : Shared) (S : Addr) (o : Obj) (ks : List κ) (I : Addr) (h' : Heap) (n : Nat) (vals : List Value) (St : Nat → Heap → Prop) (fp : List Addr) : Prop where
  wk : ∀ A' : Around, A'.handled = none → Walks prog w A' I fp [I] n (fun i v => vals[i]? = some v) St
  st : St 0 h'
  len : vals.length = n
  lem : n = ks.length
  key : (vals.map kf).Perm ks
  mem : ∀ v ∈ vals, (∃ k, knd.is k v = true) ∧ v.scannable = true
  new : s.heap.objs.size ≤ I
  inF : I ∈ fp
  fpl : ∀ b ∈ fp, b < h'.objs.size
  fpn : ∀ b ∈ fp, b = S ∨ s.heap.objs.size ≤ b
  kep : ∀ b ob, s.heap.get? b = some ob → h'.get? b = some ob
  siz : s.heap.objs.size ≤ h'.objs.size
theorem iter_set {Q : Value → Shared → Prop} (hg : s.heap.get? S = some o) (O : SObj knd kf (ledOf w) o ks es ep t) (hb : es.size ≤ sizeLine)
    (h : ∀ (I : Addr) (h' : Heap) d n vals St fp, Laid knd kf s S o ks I h' n vals St fp → Q (.ref I) { s with heap := h', drawn := d }) : wpAny (model prog w) A (pyIter (.ref S)) Q E s := by
  have hT : s.TypeIs (.ref S) "set" := ⟨o, hg, O.ex.1⟩
  have hSl : S < s.heap.objs.size := Heap.lt_size hg
  have hlk : es.size = ks.length := by simpa using O.key.length_eq
  have scn : ∀ v ∈ es.toList.map (·.2), (∃ k, knd.is k v = true) ∧ v.scannable = true := fun v hv => by
    obtain ⟨e, he, rfl⟩ := List.mem_map.mp hv
    obtain ⟨⟨k, hk, _⟩, hs⟩ := O.el e he
    exact ⟨⟨k, hk⟩, hs⟩
  have fin : ∀ (h1 : Heap) d (vals : List Value) (ex : List (Addr × Obj)) (fst : Nat → Value), s.heap.objs.size ≤ h1.objs.size → (∀ b ob, s.heap.get? b = some ob → h1.get? b = some ob) → (∀ p ∈ ex, h1.get? p.1 = some p.2 ∧ s.heap.objs.size ≤ p.1) →
      (∀ A' : Around, A'.handled = none → Steps prog w A' h1.objs.size S es.size ep o ex vals fst) → vals.length = es.size → (vals.map kf).Perm ks → (∀ v ∈ vals, (∃ k, knd.is k v = true) ∧ v.scannable = true) →
      Q (.ref h1.objs.size) { s with heap := h1.push { cls := .type "set_iterator", data := .fields #[fst 0, rawInt 0, .ref S, rawInt es.size, rawInt ep] }, drawn := d } := by
    intro h1 d vals ex fst hsz hk hx' hs hl hp hm
    have hx : ∀ p ∈ ex, h1.get? p.1 = some p.2 := fun p q => (hx' p q).1
    refine h _ _ d es.size vals _ _ ⟨fun A' hh => walks_set (hs A' hh) (Nat.ne_of_lt (Nat.lt_of_lt_of_le hSl hsz)) (fun p q => Nat.ne_of_lt (Heap.lt_size (hx p q))), ⟨⟨_, Heap.get?_push_size _ rfl, rfl, rfl⟩, Heap.get?_push_of_some _ (hk S o hg), fun p q => Heap.get?_push_of_some _ (hx p q)⟩, hl, hlk, hp, hm, hsz, by simp, fun b q => ?_, fun b q => ?_, fun b ob e => Heap.get?_push_of_some _ (hk b ob e), ?_⟩
    · rw [Heap.size_push]
      simp only [List.mem_cons, List.mem_map] at q
      rcases q with rfl | rfl | ⟨p, hp', rfl⟩
      · exact Nat.lt_succ_self _
      · exact Nat.lt_succ_of_lt (Nat.lt_of_lt_of_le hSl hsz)
      · exact Nat.lt_succ_of_lt (Heap.lt_size (hx p hp'))
    · simp only [List.mem_cons, List.mem_map] at q
      rcases q with rfl | rfl | ⟨p, hp', rfl⟩
      · exact .inr hsz
      · exact .inl rfl
      · exact .inr (hx' p hp').2
    · rw [Heap.size_push]; exact Nat.le_succ_of_le hsz
  refine wpAny_pyIter_slot hT PySem.F.slot_set_iter (wpAny_call_entry PySem.F.slot_set_iter hT en_siter ?_ (PySem.F.args_set_iter_1 _))
  unfold Builtin.«frozenset.__iter__»
  refine wpAny_bind (m := Builtin.Frozenset.slot0 _ _) ?_
  unfold Builtin.Frozenset.slot0
  refine wpAny_bind (m := slotArgs _ _ _) (wpAny_pure (α := _) ?_)
  show wpAny _ _ (pure S) _ _ _
  refine wpAny_pure (α := _) ?_
  refine wpAny_bind (m := Builtin.Frozenset.sizeOf S) ?_
  unfold Builtin.Frozenset.sizeOf
  refine wpAny_bind (m := setEntries S) (wpAny_setEntries_of hg O.dat O.fit (wpAny_pure (α := _) ?_))
  refine wpAny_bind (m := setDrawn S) (setDrawn_ok hg O ?_)
  dsimp only
  cases hbt : w.params.followText "set-order" with
  | true =>
    rw [show (!true && (!t.plain && decide (es.size > 1))) = false from rfl, if_neg Bool.false_ne_true]
    refine wpAny_bind (m := pure _) (wpAny_pure (α := _) ?_)
    refine wpAny_bind (m := setEpoch S) (wpAny_setEpoch_of hg O.dat O.fit ?_)
    refine wpAny_bind (m := newFields _ _) (wpAny_newObj_type (wpAny_pure (α := _) ⟨_, rfl, "set_iterator", _, ⟨_, Heap.get?_push_size _ rfl, rfl⟩, sl_sit.lookup, ?_⟩))
    have hp := pick_perm (w.params.setOrder S ep) es
    refine fin s.heap s.drawn ((pickOrder (w.params.setOrder S ep) es).toList.map (·.2)) [] (fun _ => .int 0 0) (Nat.le_refl _) (fun _ _ e => e) (fun p q => by cases q) (fun A' hh => steps_T hh hbt O) (by simpa using hp.length_eq) ?_ fun v hv => scn v ((hp.map _).mem_iff.mp hv)
    rw [List.map_map]
    exact (hp.map _).trans O.key
  | false =>
    have hled : ledOf w = true := by unfold ledOf; rw [hbt]; rfl
    cases hdr : (!t.plain && decide (es.size > 1)) with
    | false =>
      rw [show (!false && false) = false from rfl, if_neg Bool.false_ne_true]
      refine wpAny_bind (m := pure _) (wpAny_pure (α := _) ?_)
      refine wpAny_bind (m := setEpoch S) (wpAny_setEpoch_of hg O.dat O.fit ?_)
      refine wpAny_bind (m := newFields _ _) (wpAny_newObj_type (wpAny_pure (α := _) ⟨_, rfl, "set_iterator", _, ⟨_, Heap.get?_push_size _ rfl, rfl⟩, sl_sit.lookup, ?_⟩))
      rw [hled] at O
      refine fin s.heap s.drawn (es.toList.map (·.2)) [] (fun i => .int (slotL t i) 0) (Nat.le_refl _) (fun _ _ e => e) (fun p q => by cases q) (fun A' hh => steps_L hh hbt O hdr) (by simp) ?_ scn
      rw [List.map_map]
      exact O.key
    | true =>
      rw [show (!false && true) = true from rfl, if_pos rfl]
      refine wpAny_bind (m := drawOrder _ _) (drawOrder_ok es.size (List.range es.size) (by simp) fun ps d hps => ?_)
      have hpl : ps.length = es.size := by simpa using hps.length_eq
      refine wpAny_bind (m := newTuple _) (wpAny_newTuple ?_ (by rw [List.length_map, hpl]; exact hb))
      have hgt : (s.heap.push { cls := .type "tuple", data := .seq (ps.map fun (i : Nat) => rawInt i).toArray }).get? S = some o := Heap.get?_push_of_some _ hg
      refine wpAny_bind (m := setEpoch S) (wpAny_setEpoch_of hgt O.dat O.fit ?_)
      refine wpAny_bind (m := newFields _ _) (wpAny_newObj_type (wpAny_pure (α := _) ⟨_, rfl, "set_iterator", _, ⟨_, Heap.get?_push_size _ rfl, rfl⟩, sl_sit.lookup, ?_⟩))
      have hpm : (ps.map fun p => (es.getD p (0, .none)).2).Perm (es.toList.map (·.2)) := by
        refine (hps.map _).trans ?_
        have : (List.range es.size).map (fun p => (es.getD p (0, .none)).2) = es.toList.map (·.2) := by
          apply List.ext_getElem
          · simp
          · intro i h1 h2
            have : i < es.size := by simpa using h1
            simp [this]
        rw [this]
      refine fin _ d (ps.map fun p => (es.getD p (0, .none)).2) [(s.heap.objs.size, { cls := .type "tuple", data := .seq (ps.map fun (i : Nat) => rawInt i).toArray })] (fun _ => .ref s.heap.objs.size) (by rw [Heap.size_push]; exact Nat.le_succ _) (fun b ob e => Heap.get?_push_of_some _ e) (fun p q => ?_) (fun A' hh => steps_D hh O hps ⟨_, rfl⟩) (by simp [hpl]) ?_ fun v hv => scn v (hpm.mem_iff.mp hv)
      · obtain rfl : p = _ := by simpa using q
        exact ⟨Heap.get?_push_size _ rfl, Nat.le_refl _⟩
      · refine (hpm.map kf).trans ?_
        rw [List.map_map]
        exact O.key
abbrev newLst : Obj := { cls := .type "list", data := .seq ([] : List Value).toArray }
theorem collect_set {Q : List Value → Shared → Prop} (hh : A.handled = none) (hg : s.heap.get? S = some o) (O : SObj knd kf (ledOf w) o ks es ep t) (hb : es.size ≤ sizeLine)
    (h : ∀ (vals : List Value) (h' : Heap) d tk, (vals.map kf).Perm ks → (∀ v ∈ vals, (∃ k, knd.is k v = true) ∧ v.scannable = true) → s.heap.objs.size < h'.objs.size → (∀ b ob, s.heap.get? b = some ob → h'.get? b = some ob) → Q vals { s with heap := h', drawn := d, toks := tk }) :
    wpAny (model prog w) A (collect (.ref S)) Q E s := by
  have hSl : S < s.heap.objs.size := Heap.lt_size hg
  unfold collect
  refine wpAny_bind (m := runValue _) (wpAny_runValue (codeAny_builtin PySem.F.entry_proto_collect ?_))
  rw [Around.under_plainId PySem.F.plain_proto_collect _]
  show wpAny _ _ (newList [] >>= fun l => again (.builtin "list.__iadd__" ⟨[l, .ref S], []⟩)) _ _ _
  refine wpAny_bind (m := newList []) (wpAny_newObj_type ?_)
  refine wpAny_pure (α := _) ⟨plainId_quiet PySem.F.plain_list_iadd _, codeAny_builtin PySem.F.entry_list_iadd ?_⟩
  rw [Around.under_plainId PySem.F.plain_list_iadd _]
  have hg1 : (s.heap.push newLst).get? S = some o := Heap.get?_push_of_some _ hg
  have hT1 : Shared.TypeIs { s with heap := s.heap.push newLst } (.ref S) "set" := ⟨o, hg1, O.ex.1⟩
  show wpAny _ _ (Builtin.List.listExtendWith (.ref s.heap.objs.size) (.ref S) (.ref s.heap.objs.size)) _ _ _
  unfold Builtin.List.listExtendWith
  refine wpAny_bind (m := typeOf _) (wpAny_typeOf hT1 ?_)
  have n1 : Builtin.List.listSameRef (.ref s.heap.objs.size) (.ref S) = false := by simp [Builtin.List.listSameRef, Nat.ne_of_gt hSl]
  rw [if_neg (by rw [n1]; decide)]
  refine wpAny_bind (m := pyIter _) (iter_set hg1 O hb fun I h1 d n vals St fp L => ?_)
  refine wpAny_bind (m := holding _ _) (wpAny_holding (vs := [_]) ?_)
  unfold Builtin.List.listLengthHint
  have hg2 : h1.get? S = some o := L.kep S o hg1
  have hT2 : Shared.TypeIs { s with heap := h1, drawn := d } (.ref S) "set" := ⟨o, hg2, O.ex.1⟩
  refine wpAny_bind (m := specialOf _ _) (wpAny_specialOf hT2 PySem.F.slot_set_len.lookup ?_)
  dsimp only
  rw [show splitId "set.__len__" = some ("set", "__len__") by decide +kernel]
  dsimp only
  refine wpAny_bind (m := isInstance _ _) (wpAny_isInstance hT2 sub_set_self ?_)
  rw [if_neg (by decide), if_pos (by decide +kernel)]
  refine wpAny_bind (m := typeOf _) (wpAny_typeOf hT2 ?_)
  dsimp only
  refine wpAny_pure (α := _) ?_
  rw [if_pos (by decide +kernel)]
  refine wpAny_bind (m := rule _) (wpAny_rule ?_)
  have hS1 : h1.get? s.heap.objs.size = some newLst := L.kep _ _ (Heap.get?_push_size _ rfl)
  have hNI : s.heap.objs.size ≠ I := Nat.ne_of_lt (Nat.lt_of_lt_of_le (by rw [Heap.size_push]; exact Nat.lt_succ_self _) L.new)
  refine wpAny_bind (m := Builtin.List.listTouch _) ?_
  show wpAny _ _ (updateSeq s.heap.objs.size (·.push .none) >>= fun _ => updateSeq s.heap.objs.size (·.pop)) _ _ _
  refine wpAny_bind (m := updateSeq _ _) (wpAny_updateSeq hS1 rfl ?_)
  have hS2 := Heap.get?_update_self (Obj.mapSeq (·.push Value.none)) hS1 rfl
  refine wpAny_updateSeq hS2 rfl ?_
  have hS3 := Heap.get?_update_self (Obj.mapSeq (·.pop)) hS2 rfl
  have oth : ∀ b ob, b ≠ s.heap.objs.size → h1.get? b = some ob → ((h1.update s.heap.objs.size (Obj.mapSeq (·.push Value.none))).update s.heap.objs.size (Obj.mapSeq (·.pop))).get? b = some ob :=
    fun b ob q e => (Heap.get?_update_other _ _ (Ne.symm q)).trans ((Heap.get?_update_other _ _ (Ne.symm q)).trans e)
  have hNf : s.heap.objs.size ∉ fp := fun q => by
    rcases L.fpn _ q with z | z
    · exact absurd z (Nat.ne_of_gt hSl)
    · have z' : (s.heap.push newLst).objs.size ≤ s.heap.objs.size := z
      rw [Heap.size_push] at z'
      exact absurd z' (Nat.not_succ_le_self _)
  have hlv : n ≤ sizeLine := by
    have e1 := L.lem
    have e2 : es.size = ks.length := by simpa using O.key.length_eq
    omega
  have W := L.wk A.in1 (by simp [hh])
  refine wpAny_pure (α := _) ⟨plainId_quiet PySem.F.plain_extend_loop _, codeAny_extend_loopS W.toS hlv _ hNf _ n 0 _ _ _ rfl (Nat.zero_le _) (W.frame 0 h1 _ L.st fun b q ob e => oth b ob (fun z => hNf (z ▸ q)) e) hS3 (ItemsOf.nil _) fun s' acc c' hm hS' hacc => ?_⟩
  show wpAny _ _ (load s.heap.objs.size >>= _) _ _ _
  refine wpAny_bind (m := load _) (wpAny_load hS' ?_)
  refine wpAny_pure (α := _) ?_
  have ev : acc.toList = vals := by
    apply List.ext_getElem?
    intro i
    by_cases q : i < n
    · have hi : i < acc.size := by rw [hacc.1]; exact q
      have := hacc.2 i acc[i] (Array.getElem?_eq_getElem hi)
      rw [Array.getElem?_toList, Array.getElem?_eq_getElem hi, this]
    · exact (List.getElem?_eq_none (by rw [Array.length_toList, hacc.1]; omega)).trans (List.getElem?_eq_none (by rw [L.len]; omega)).symm
  rw [ev]
  obtain ⟨h', g', d', tk', os'⟩ := s'
  obtain rfl : g' = s.gens := hm.gens
  obtain rfl : d' = d := hm.drawn
  obtain rfl : os' = s.os := hm.os
  refine h vals h' d' tk' L.key L.mem (Heap.lt_size hS') fun b ob e => ?_
  have hlt := Heap.lt_size e
  have hbN : b ≠ s.heap.objs.size := Nat.ne_of_lt hlt
  refine hm.heap b ob ?_ (oth b ob hbN (L.kep b ob (Heap.get?_push_of_some _ e)))
  simp only [List.mem_cons, List.not_mem_nil, or_false, not_or]
  exact ⟨hbN, fun z => hbN (by
    subst z
    have z2 : (s.heap.push newLst).objs.size ≤ b := L.new
    rw [Heap.size_push] at z2
    exact absurd hlt (Nat.not_lt_of_ge (Nat.le_of_succ_le z2)))⟩
end
end L3

namespace L3
open PySem PySem.Spec PyProof.Rows L2

def intK : Value → Int | .int i _ => i | _ => 0
theorem intK_ok {prog : Program} {w : World} : ∀ k v, (PySem.intKind prog w).is k v = true → intK v = k := fun k v h => by
  obtain ⟨t, rfl⟩ := Value.isInt_shape h
  rfl
theorem ints_of {prog : Program} {w : World} : ∀ {vs : List Value}, (∀ v ∈ vs, (∃ k, (PySem.intKind prog w).is k v = true) ∧ v.scannable = true) → IntsAre vs (vs.map intK)
  | [], _ => .nil
  | v :: vs, h => by
    obtain ⟨⟨k, hk⟩, _⟩ := h v List.mem_cons_self
    obtain ⟨t, rfl⟩ := Value.isInt_shape hk
    exact .cons _ _ (ints_of fun u hu => h u (List.mem_cons_of_mem _ hu))
theorem sh_at {h : Heap} {a : Addr} {vs : List Value} {out xs : Array Value} {n : Nat} (hob : h.get? a = some (seqObj "list" xs n)) : ∃ e, (sortedHeap h a vs out).get? a = some (seqObj "list" out e) := by
  have hal : a < h.objs.size := Heap.lt_size hob
  have h1 := get?_update_seq hob (fun _ => (#[] : Array Value))
  have h2 : (((h.update a (Obj.mapSeq fun _ => #[])).push (seqObj "tuple" vs.toArray 0)).push (seqObj "list" #[] 0)).get? a = some (seqObj "list" #[] _) := Heap.get?_push_of_some _ (Heap.get?_push_of_some _ h1)
  exact ⟨_, get?_update_seq h2 (fun _ => out)⟩
theorem sh_old {h : Heap} {a b : Addr} {vs : List Value} {out : Array Value} {o : Obj} (hb : h.get? b = some o) (hne : b ≠ a) : (sortedHeap h a vs out).get? b = some o := by
  have h1 : (h.update a (Obj.mapSeq fun _ => (#[] : Array Value))).get? b = some o := (Heap.get?_update_ne _ _ _ _ hne).trans hb
  exact (Heap.get?_update_ne _ _ _ _ hne).trans (Heap.get?_push_of_some _ (Heap.get?_push_of_some _ h1))
section
variable {prog : Program} {w : World} {A : Around} {E : Value → Shared → Prop} {s : Shared} {S : Addr} {ks : List Int}
theorem sorted_set {Q : Value → Shared → Prop} (hh : A.handled = none) (hS : SetI (PySem.intKind prog w) intK (ledOf w) s.heap S ks) (h64 : ks.length < 64)
    (h : ∀ (l : Addr) (h' : Heap) d tk (out : List Value) (ms : List Int) e, s.heap.objs.size ≤ l → IntsAre out ms → ms.Perm ks → ms.Pairwise (· ≤ ·) → h'.get? l = some (seqObj "list" out.toArray e) → (∀ b ob, s.heap.get? b = some ob → h'.get? b = some ob) → Q (.ref l) { s with heap := h', drawn := d, toks := tk }) :
    wpAny (model prog w) A (call (.builtin "sorted") [.ref S]) Q E s := by
  obtain ⟨o, es, ep, t, hg, O⟩ := hS
  have hlk : es.size = ks.length := by simpa using O.key.length_eq
  have line : (64 : Nat) ≤ sizeLine := by decide
  refine Calls.call_function_entry kind_sorted plain_sorted entry_sorted (args_sorted1 _) (show wpAny _ _ (Builtin.«sorted» _) _ _ _ from ?_)
  unfold Builtin.«sorted»
  refine wpAny_bind (m := checkCount "sorted" 1 1 _) (wpAny_pure (α := _) ?_)
  refine wpAny_bind (m := collect _) (collect_set (by simp [hh]) hg O (by omega) fun vals h1 d tk hk hm hlt hold => ?_)
  have hlv : vals.length = ks.length := by simpa using hk.length_eq
  refine wpAny_bind (m := newList _) (wpAny_newList ?_ (by omega))
  have hoL : (h1.push (seqObj "list" vals.toArray 0)).get? h1.objs.size = some (seqObj "list" vals.toArray 0) := Heap.get?_push_size _ rfl
  have hI := ints_of hm
  refine wpAny_bind (m := holding _ _) (wpAny_holding (vs := [_]) (wpAny_call_entry slot_list_sort ⟨_, hoL, rfl⟩ entry_list_sort (list_sort_tree (ns := vals.map intK) hoL hI (by omega) fun out ms a1 a2 a3 => ⟨_, rfl, ?_⟩) (args_list_sort _)))
  refine wpAny_pure (α := _) ⟨_, rfl, ?_⟩
  obtain ⟨e, he⟩ := sh_at (vs := vals) (out := out) hoL
  have hle : s.heap.objs.size ≤ h1.objs.size := Nat.le_of_lt hlt
  refine h h1.objs.size _ d tk out.toList ms e hle a1 (a2.trans hk) a3 (by rw [Array.toArray_toList]; exact he) fun b ob eb => ?_
  have e1 := hold b ob eb
  exact sh_old (Heap.get?_push_of_some _ e1) (Nat.ne_of_lt (Heap.lt_size e1))
end
def setO (P : Program) (w : World) (a : Addr) (ns : List Int) : HO := .ext fun h => SetI (PySem.intKind P w) intK (ledOf w) h a (metK (fun i => ns.getD i 0) ns.length)
theorem inv_dr {X : Cx} {pins : List (Addr × Obj)} {σ : St} {H : Hp} {s : Shared} (I : Inv X pins σ H s) (d) : Inv X pins σ H { s with drawn := d } := ⟨I.ok, I.os, I.bare, I.base, I.loc, I.cell, I.free, I.freeC, I.pin, I.hok, I.len⟩
def rSet (X : Cx) : List V → Hp → VK → Prop := fun vs H Q => ∃ (p : Addr) (ns : List Int), vs = [.ref p] ∧ SqL X.K H p (ns.map .int) ∧ ns.length + 1 < scanBound ∧ ∀ q, H q = none → Q (.ref q) (upd H q (setO X.prog X.w q ns))
def rSrt (X : Cx) : List V → Hp → VK → Prop := fun vs H Q => ∃ (q : Addr) (ns : List Int), vs = [.ref q] ∧ H q = some (setO X.prog X.w q ns) ∧ (metK (fun i => ns.getD i 0) ns.length).length < 64 ∧
  ∀ (l : Addr) (ms : List Int), H l = none → ms.Perm (metK (fun i => ns.getD i 0) ns.length) → ms.Pairwise (· ≤ ·) → Q (.ref l) (upd H l (.lst (ms.map .int)))
theorem call_set {X : Cx} (hc : X.calm = true) : CallR X (.type "set") (rSet X) := by
  intro pins s σ H xs us Q I r ⟨p, ns, e0, hq, hb, k⟩
  subst e0
  obtain ⟨u, rfl, rx⟩ := vals1 r
  cases rx
  obtain ⟨its, rv, pl, hz⟩ := I.list hq
  have hl := rv.length
  rw [List.length_map] at hl
  have hI := intsAre_of rv
  have hsz : its.toArray.size = ns.length := by simpa using hl.symm
  refine set_of_list (κ := Int) (knd := PySem.intKind X.prog X.w) (kf := intK) intK_ok (val := fun i => ns.getD i 0) (I.ok.hd hc) pl.isList (fun i v hv => ?_) (by rw [hsz]; exact hb) fun h' tk hS hold => ?_
  · obtain ⟨t, rfl⟩ := IntsAre.int_at hI i v (by simpa using hv)
    exact ⟨intKind_is _ _ _ _, rfl⟩
  · rw [hsz] at hS
    have I2 : Inv X pins σ (upd H s.heap.objs.size (setO X.prog X.w s.heap.objs.size ns)) { s with heap := h', toks := tk } :=
      I.laid (t' := tk) hold (Nat.le_refl _) (show ObjOk X.prog X.w _ _ _ (setO X.prog X.w s.heap.objs.size ns) from ⟨hS, by obtain ⟨o, _, _, _, e, _⟩ := hS; exact ⟨o, e⟩, fun h1 h2 q st => q.stay st⟩)
    exact ⟨.ref s.heap.objs.size, _, I2, rfl, k _ (I.hok.fresh (Nat.le_refl _))⟩
theorem call_srt {X : Cx} (hc : X.calm = true) : CallR X (.builtin "sorted") (rSrt X) := by
  intro pins s σ H xs us Q I r ⟨q, ns, e0, hq, h64, k⟩
  subst e0
  obtain ⟨u, rfl, rx⟩ := vals1 r
  cases rx
  obtain ⟨hS, _, _⟩ := I.hok q _ hq
  refine sorted_set (I.ok.hd hc) hS h64 fun l h' d tk out ms e hle a1 a2 a3 hl hold => ?_
  have hlen : (ms.map V.int).length ≤ sizeLine := by
    rw [List.length_map, a2.length_eq]
    have : (64 : Nat) ≤ sizeLine := by decide
    omega
  have I2 : Inv X pins σ (upd H l (.lst (ms.map .int))) { s with heap := h', toks := tk } :=
    I.laid (t' := tk) hold hle (show ObjOk X.prog X.w _ _ _ (.lst (ms.map .int)) from ⟨hlen, out, e, vals_ints a1, hl⟩)
  exact ⟨.ref l, _, inv_dr I2 d, rfl, k l ms (I.hok.fresh hle) a2 a3⟩
def n_sset : List D → (List D → Prop) → Prop := fun ds P => match ds with
  | [.lst xs] => ∃ ns, intsD xs = some ns ∧ ns.length < 63 ∧ ∀ ms : List Int, ms.Pairwise (· < ·) → (∀ i, i ∈ ms ↔ i ∈ ns) → P (ms.map .int)
  | _ => False
theorem boot_set : bootBuiltins "set" = some (.type "set") := by decide +kernel
section
variable {X : Cx} {F0 H0 : Hp} {a e : Expr} {pos p pos2 p2 : Pos} {t : TF2}
theorem met_mem (ns : List Int) (k : Int) : k ∈ metK (fun i => ns.getD i 0) ns.length ↔ k ∈ ns := by
  rw [metK_mem]
  constructor
  · rintro ⟨j, hj, rfl⟩
    show ns.getD j 0 ∈ ns
    rw [List.getD_eq_getElem?_getD, List.getElem?_eq_getElem hj]
    exact List.getElem_mem hj
  · intro h
    obtain ⟨j, hj, e⟩ := List.mem_iff_getElem.mp h
    exact ⟨j, hj, by show ns.getD j 0 = k; rw [List.getD_eq_getElem?_getD, List.getElem?_eq_getElem hj]; exact e⟩
theorem qf_sset (hc : X.calm = true) (hg : Gl X "sorted") (hm : X.mg "sorted" = none) (hg2 : Gl X "set") (hm2 : X.mg "set" = none) (ha : QA X F0 H0 [a] t) (hb : bootBuiltins "sorted" = some (.builtin "sorted") := by decide +kernel)
    (he : starEach [a] X.env = (false, eval a X.env) :: starEach [] X.env := by rfl) (he2 : starEach [.Call (.Name "set" p2) [a] [] pos2] X.env = (false, eval (.Call (.Name "set" p2) [a] [] pos2) X.env) :: starEach [] X.env := by rfl) :
    QF X F0 H0 (.Call (.Name "sorted" p) [.Call (.Name "set" p2) [a] [] pos2] [] pos) (fCB n_sset t) := fun z E cx => by
  have inner : PE (X.wsh z) (.Call (.Name "set" p2) [a] [] pos2) (tCB (rSet (X.wsh z)) (upA X.K F0 H0 t E)) := pe_callTy (X := X.wsh z) (call_set hc) hg2 hm2 boot_set (ha z E cx) (by decide) (by decide) he rfl
  refine peC (pe_callB (X := X.wsh z) (call_srt hc) hg hm hb (pa_cons inner pa_nil he2) (by decide) (by decide) he2 rfl) fun σ H Q ⟨F, Γ, P, R, h, k⟩ => ?_
  refine ⟨F, Γ, _, R, h, fun ds Γ1 F1 H1 vs R1 s1 r1 h1 => ?_⟩
  unfold n_sset at h1
  split at h1
  · unfold Reps Reps Rep at r1
    obtain ⟨v, _, rfl, ⟨l, us, rfl, hq, rs⟩, rfl⟩ := r1
    obtain ⟨ns, hns, hlt, h1⟩ := h1
    obtain rfl := ints_vals rs hns
    refine ⟨l, ns, rfl, R1.g.seq hq, by unfold scanBound; omega, fun q hq0 => ?_⟩
    have hml := metK_len (fun i => ns.getD i 0) ns.length
    refine ⟨q, ns, rfl, upd_same, by omega, fun l2 ms hl2 hp hs => ?_⟩
    have R2 : SR X.K F0 H0 F1 (upd H1 q (setO X.prog X.w q ns)) σ Γ1 := R1.grow ⟨.refl _, fun b u e => by rw [upd_ne (ne_of_none (R1.g b u e) hq0)]; exact R1.g b u e, fun b u e => by rw [upd_ne (ne_of_none e hq0)]; exact e, fun b o e n => by rw [e] at n; cases n⟩
    obtain ⟨R3, q1, q2, q3, ap⟩ := new_lst R2 hl2 (reps_ints (K := X.K) (F := F1) ms)
    refine k _ Γ1 F1 _ l2 _ R3 s1 q1 q2 q3 (reps_ints ms) ap (h1 ms ?_ fun i => hp.mem_iff.trans (met_mem ns i))
    have nd : ms.Nodup := hp.nodup_iff.mpr (metK_nodup _ _)
    have := List.Pairwise.and hs nd
    exact this.imp fun {a b} ⟨q1, q2⟩ => by omega
  · exact h1.elim
end
end L3

namespace L3
open PySem PySem.Spec PyProof.Rows L2

def Itv (K : PySem.W.Frag) (a : Addr) (xs : List V) : It := ⟨fun i H => SqL K H a xs ∧ i < xs.length, fun i H x H' => H' = H ∧ xs.reverse[i]? = some x, fun i _ => xs.length ≤ i⟩
theorem turn_rev {P : Program} {w : World} {K : PySem.W.Frag} {tg : Expr} (a it : Addr) (xs : List V) : Turn P w K tg (Itv K a xs) [it] it (fun i h => i ≤ xs.length ∧ h.IsRevIter it a ((xs.length : Int) - 1 - (i : Int))) where
  mem := by simp
  obj := fun i h st b hb => by
    obtain rfl : b = it := by simpa using hb
    obtain ⟨_, o, e, c, d⟩ := st
    exact ⟨o, e, fun v z => by rw [d] at z; cases z⟩
  keep := fun i h h' st k => ⟨st.1, st.2.at fun o e => k it (by simp) o e⟩
  item := by
    intro X hP hw hK hc i pins s σ H E I hf st hg
    subst hP hw hK
    obtain ⟨hq, hx⟩ := hg
    obtain ⟨its, rv, p, hz⟩ := I.list hq
    have hl := rv.length
    obtain ⟨f0, f1, f2, f3, f4, f5⟩ := hf it (by simp)
    have hj : xs.length - 1 - i < xs.length := by omega
    obtain ⟨u, hu, ru⟩ := rv.get (List.getElem?_eq_getElem hj)
    have hit := st.2
    rw [show (xs.length : Int) - 1 - (i : Int) = ((xs.length - 1 - i : Nat) : Int) by omega] at hit
    refine wpAny_pyNext_rev_item hit p.isList (x := u) (by simpa using hu) fun h' hit' sb => ?_
    have I1 : Inv X pins σ H { s with heap := h' } := I.turned (t' := s.toks) (fun b o hb e => (sb.2 b hb).trans e) f0 f1 f3 f4 f5
    obtain ⟨o, e, c, d⟩ := id hit'
    refine ⟨u, rfl, go_of (s := { s with heap := h' }) e c d (by decide) ⟨xs[xs.length - 1 - i], H, I1, ru, ⟨rfl, ?_⟩, ⟨hx, ?_⟩, fun b hb => (hf b hb).1⟩⟩
    · rw [List.getElem?_reverse hx, List.getElem?_eq_getElem hj]
    · rw [show ((xs.length - 1 - i : Nat) : Int) - 1 = (xs.length : Int) - 1 - ((i + 1 : Nat) : Int) by omega] at hit'
      exact hit'
  done := by
    intro X hP hw hK hc i pins s σ H E I hf st hg
    subst hP hw hK
    obtain ⟨f0, f1, f2, f3, f4, f5⟩ := hf it (by simp)
    have hle : xs.length ≤ i := hg
    have hit := st.2
    rw [show (xs.length : Int) - 1 - (i : Int) = -1 by have := st.1; omega] at hit
    exact wpAny_pyNext_rev_end (I.ok.hd hc) hit fun h' eb => ⟨rfl, I.turned (t' := s.toks) (fun b o hb e => eb b o hb e) f0 f1 f3 f4 f5⟩
  self := fun _ _ _ _ _ st h => wpAny_pyIter_revIter st.2 h
theorem boot_reversed : bootBuiltins "reversed" = some (.type "reversed") := by decide +kernel
def iRevV (K : PySem.W.Frag) (ta : TA) : TI := fun σ H R => ta σ H fun vs H1 => ∃ a xs, vs = [.ref a] ∧ SqL K H1 a xs ∧ (xs.length ≤ sizeLine → R (Itv K a xs) H1)
theorem pi_rev {X : Cx} {a tg : Expr} {ta : TA} {p pos : Pos} (hg : Gl X "reversed") (hm : X.mg "reversed" = none) (ha : PA X [a] ta) (hs : starEach [a] X.env = (false, eval a X.env) :: starEach [] X.env := by rfl) :
    PI X tg (.Call (.Name "reversed" p) [a] [] pos) (iRevV X.K ta) := by
  intro pins s σ H R I h
  refine Call_ (ld_blt I hg hm boot_reversed (PyProof.Rows.callWith_type1 (thn (ha pos pins s σ H _ I h) fun us s1 ⟨vs, H1, I1, r1, q1⟩ => ?_) hs rfl))
  obtain ⟨l, xs, rfl, hq, q⟩ := q1
  obtain ⟨u, rfl, rx⟩ := vals1 r1
  cases rx
  obtain ⟨its, rv, pl, hz⟩ := I1.list hq
  have hl := rv.length
  refine call_reversed_list pl.isList ?_
  have hit : (s1.heap.push (revObj l ((its.toArray.size : Int) - 1))).IsRevIter s1.heap.objs.size l ((xs.length : Int) - 1 - ((0 : Nat) : Int)) := ⟨_, Heap.get?_push_size _ rfl, rfl, by show Data.fields _ = _; rw [List.size_toArray, ← hl]; simp [rawInt]⟩
  refine wpAny_pyIter_revIter hit ⟨s1.heap.objs.size, [s1.heap.objs.size], _, _, H1, rfl, I1.kept (t' := s1.toks) fun b o e => Heap.get?_push_of_some _ e, turn_rev l _ xs, ⟨Nat.zero_le _, hit⟩, fun b hb => ?_, q hz⟩
  obtain rfl : b = s1.heap.objs.size := by simpa using hb
  exact I1.fpOk (Nat.le_refl _) (I1.hok.fresh (Nat.le_refl _))
def i_reversed (t : TF2) : TF2 := fun Γ P E => t Γ (fun ds Γ1 => match ds with | [.lst xs] => P xs.reverse Γ1 | _ => False) E
theorem itd_rev {K : PySem.W.Frag} {F : Hp} {a : Addr} {vs : List V} {xs : List D} (hq : SqL K F a vs) (rs : Reps K F xs vs) (hz : vs.length ≤ sizeLine) : ItD K F noH (Itv K a vs) xs.reverse := by
  have hl := reps_len rs
  refine ⟨by rw [List.length_reverse]; omega, fun i H2 F2 s2 s3 _ => ⟨fun e => by show vs.length ≤ i; rw [e, List.length_reverse]; omega, fun d hd => ?_⟩⟩
  obtain ⟨v, hv, rv⟩ := reps_get (reps_rev rs) hd
  have hi : i < vs.length := by
    have := (List.getElem?_eq_some_iff.mp hv).1
    rwa [List.length_reverse] at this
  refine ⟨⟨s3.seq (s2.seq hq), hi⟩, fun y H' z => ?_⟩
  obtain ⟨rfl, z⟩ := z
  rw [hv] at z; cases z
  exact ⟨F2, Gr.refl s3, rv.up s2⟩
section
variable {X : Cx} {F0 H0 : Hp} {a e tg : Expr} {pos p pos2 p2 : Pos} {t : TF2}
theorem qi_reversed (hc : X.calm = true) (hg : Gl X "reversed") (hm : X.mg "reversed" = none) (ha : QA X F0 H0 [a] t) (hs : starEach [a] X.env = (false, eval a X.env) :: starEach [] X.env := by rfl) :
    QI X F0 H0 tg (.Call (.Name "reversed" p) [a] [] pos) (i_reversed t) := fun z E cx => piC (pi_rev (X := X.wsh z) hg hm (ha z E cx) hs) fun σ H R ⟨F, Γ, P, S, q, k⟩ => ⟨F, Γ, _, S, q, fun ds Γ1 F1 H1 vs R1 s1 r1 h1 => by
    unfold i_reversed at *
    split at h1
    · unfold Reps Reps Rep at r1
      obtain ⟨v, _, rfl, ⟨l, us, rfl, hq, rs⟩, rfl⟩ := r1
      exact ⟨l, us, rfl, R1.g.seq hq, fun hz => k _ Γ1 F1 H1 _ R1 s1 (itd_rev hq rs hz) h1⟩
    · exact h1.elim⟩
end

theorem nolen_rev : typeLookup (.type "list_reverseiterator") "__len__" = pure none := by rw [typeLookup_type, builtinLookup_eq_fast]; kernel_rfl
theorem hint_rev : typeLookup (.type "list_reverseiterator") "__length_hint__" = pure (some (.builtin "list_reverseiterator.__length_hint__")) := by rw [typeLookup_type, builtinLookup_eq_fast]; kernel_rfl
section
variable {prog : Program} {w : World} {A : Around} {E : Value → Shared → Prop} {s : Shared}
abbrev emptyL : Obj := { cls := .type "list", data := .seq #[] }
theorem list_of_rev {I l : Addr} {items : Array Value} {Q : Value → Shared → Prop} (hh : A.handled = none) (hit : s.heap.IsRevIter I l ((items.size : Int) - 1)) (hl : s.heap.IsList l items) (hz : items.size ≤ sizeLine)
    (h : ∀ h' c tk, (∀ b o, b ≠ I → s.heap.get? b = some o → h'.get? b = some o) → h'.get? s.heap.objs.size = some { cls := .type "list", dict := none, data := .seq items.reverse c, slots := #[] } → Q (.ref s.heap.objs.size) { s with heap := h', toks := tk }) :
    wpAny (model prog w) A (call (.type "list") [.ref I]) Q E s := by
  have hIl : I < s.heap.objs.size := by obtain ⟨o, e, _⟩ := hit; exact Heap.lt_size e
  have hll : l < s.heap.objs.size := by obtain ⟨o, e, _⟩ := hl; exact Heap.lt_size e
  have hne : l ≠ I := by
    obtain ⟨o, e, c, _⟩ := hit
    obtain ⟨o', e', c', _⟩ := hl
    rintro rfl
    rw [e] at e'; cases e'
    rw [c] at c'
    exact absurd (Value.type.inj c') (by decide)
  refine callType_codes (Q₁ := fun obj s₁ => obj = .ref s.heap.objs.size ∧ s₁ = { s with heap := s.heap.push emptyL }) PySem.F.called_list (PySem.F.typeCall_list_1 _) PySem.F.entry_list_init (code_list_new _ ⟨rfl, rfl⟩) fun obj s₁ h₁ => ?_
  obtain ⟨rfl, rfl⟩ := h₁
  have hS : (s.heap.push emptyL).get? s.heap.objs.size = some emptyL := Heap.get?_push_size _ rfl
  refine ⟨⟨_, hS, rfl⟩, PySem.F.args_list_init_2 _ _, ?_⟩
  show wpAny _ _ (Builtin.List.listItems (.ref s.heap.objs.size) >>= fun old => Builtin.List.listUpdate (.ref s.heap.objs.size) (fun _ => #[]) >>= fun _ => letGo old.toList.reverse >>= fun _ => Builtin.List.listExtendWith (.ref s.heap.objs.size) (.ref I) .none) _ _ _
  refine wpAny_bind (m := Builtin.List.listItems _) (listItems_at hS rfl ?_)
  refine wpAny_bind (m := Builtin.List.listUpdate _ _) (listUpdate_at hS rfl ?_ (Nat.zero_le _) (Nat.zero_le _))
  have hS2 := Heap.get?_update_self (Obj.mapSeq (fun _ => (#[] : Array Value))) hS rfl
  refine wpAny_bind (m := letGo _) (wpAny_letGo ?_)
  have oth : ∀ b o, b ≠ s.heap.objs.size → (s.heap.push emptyL).get? b = some o → ((s.heap.push emptyL).update s.heap.objs.size (Obj.mapSeq (fun _ => (#[] : Array Value)))).get? b = some o :=
    fun b o q e => (Heap.get?_update_other _ _ (Ne.symm q)).trans e
  have hit2 : ((s.heap.push emptyL).update s.heap.objs.size (Obj.mapSeq (fun _ => (#[] : Array Value)))).IsRevIter I l ((items.size : Int) - 1) := hit.at fun o e => oth I o (Nat.ne_of_lt hIl) (Heap.get?_push_of_some _ e)
  have hl2 : ((s.heap.push emptyL).update s.heap.objs.size (Obj.mapSeq (fun _ => (#[] : Array Value)))).IsList l items := hl.at fun o e => oth l o (Nat.ne_of_lt hll) (Heap.get?_push_of_some _ e)
  generalize (s.heap.push emptyL).update s.heap.objs.size (Obj.mapSeq (fun _ => (#[] : Array Value))) = h2 at *
  have hT2 : Shared.TypeIs { s with heap := h2 } (.ref I) "list_reverseiterator" := hit2.typeIs
  unfold Builtin.List.listExtendWith
  refine wpAny_bind (m := typeOf _) (wpAny_typeOf hT2 ?_)
  have n1 : Builtin.List.listSameRef (.ref s.heap.objs.size) (.ref I) = false := by simp [Builtin.List.listSameRef, Nat.ne_of_gt hIl]
  rw [if_neg (by rw [n1]; decide)]
  refine wpAny_bind (m := pyIter _) (wpAny_pyIter_revIter hit2 ?_)
  refine wpAny_bind (m := holding _ _) (wpAny_holding (vs := [_]) ?_)
  unfold Builtin.List.listLengthHint
  refine wpAny_bind (m := specialOf _ _) (wpAny_specialOf hT2 nolen_rev ?_)
  show wpAny _ _ (specialOf (Value.ref I) (Str.ofString "__length_hint__") >>= _) _ _ _
  refine wpAny_bind (m := specialOf _ _) (wpAny_specialOf hT2 hint_rev ?_)
  dsimp only
  rw [show splitId "list_reverseiterator.__length_hint__" = some ("list_reverseiterator", "__length_hint__") by decide +kernel]
  dsimp only
  refine wpAny_bind (m := isInstance _ _) (wpAny_isInstance (b := true) hT2 (by rw [isSubtype_type]; kernel_rfl) ?_)
  rw [if_neg (by decide), if_pos (by decide +kernel)]
  rw [if_neg (by decide +kernel)]
  refine wpAny_pure (α := _) ?_
  rw [if_neg (by decide +kernel)]
  have hSf : s.heap.objs.size ∉ [I, l] := by
    simp only [List.mem_cons, List.not_mem_nil, or_false, not_or]
    exact ⟨Nat.ne_of_gt hIl, Nat.ne_of_gt hll⟩
  have W := Walks.listRev (prog := prog) (w := w) (A := A.in1.in1) (by simp [hh]) I l hne items
  refine wpAny_pure (α := _) ⟨plainId_quiet PySem.F.plain_extend_loop _, codeAny_extend_loopS W.toS hz _ hSf _ items.size 0 _ _ _ rfl (Nat.zero_le _) ⟨Nat.zero_le _, by rw [show (items.size : Int) - 1 - ((0 : Nat) : Int) = (items.size : Int) - 1 by omega]; exact hit2, hl2⟩ hS2 (ItemsOf.nil _) fun s' acc c' hm hS' hacc => ?_⟩
  have ev : acc = items.reverse := by
    apply Array.ext_getElem?
    intro i
    by_cases q : i < items.size
    · have hi : i < acc.size := by rw [hacc.1]; exact q
      have := hacc.2 i acc[i] (Array.getElem?_eq_getElem hi)
      rw [Array.getElem?_eq_getElem hi, Array.getElem?_reverse q, this]
    · rw [Array.getElem?_eq_none (by rw [hacc.1]; omega), Array.getElem?_eq_none (by simp; omega)]
  subst ev
  obtain ⟨h', g', d', tk', os'⟩ := s'
  obtain rfl : g' = s.gens := hm.gens
  obtain rfl : d' = s.drawn := hm.drawn
  obtain rfl : os' = s.os := hm.os
  refine ⟨rfl, h h' c' tk' (fun b o hb e => ?_) hS'⟩
  have hlt := Heap.lt_size e
  exact hm.heap b o (by simp only [List.mem_cons, List.not_mem_nil, or_false, not_or]; exact ⟨Nat.ne_of_lt hlt, hb⟩) (oth b o (Nat.ne_of_lt hlt) (Heap.get?_push_of_some _ e))
end
theorem pe_lrev {X : Cx} {a : Expr} {ta : TA} {p p2 pos pos2 : Pos} (hc : X.calm = true) (hg : Gl X "list") (hm : X.mg "list" = none) (hg2 : Gl X "reversed") (hm2 : X.mg "reversed" = none) (ha : PA X [a] ta) (hb : bootBuiltins "list" = some (.type "list") := by decide +kernel)
    (he : starEach [a] X.env = (false, eval a X.env) :: starEach [] X.env := by rfl) (he2 : starEach [.Call (.Name "reversed" p2) [a] [] pos2] X.env = (false, eval (.Call (.Name "reversed" p2) [a] [] pos2) X.env) :: starEach [] X.env := by rfl) :
    PE X (.Call (.Name "list" p) [.Call (.Name "reversed" p2) [a] [] pos2] [] pos) (fun σ H Q => ta σ H fun vs H1 => ∃ l xs, vs = [.ref l] ∧ SqL X.K H1 l xs ∧ ∀ q, H1 q = none → Q (.ref q) (upd H1 q (.lst xs.reverse))) := by
  intro pins s σ H Q I h
  refine wpAny_Call_Name_kw (ld_blt I hg hm hb ?_ (by decide) (by decide))
  refine PyProof.Rows.callWith_type1 ?_ he2 rfl
  rw [he2]
  show wpAny _ _ (spliced ((false, eval (.Call (.Name "reversed" p2) [a] [] pos2) X.env) :: backTo pos (starEach [] X.env))) _ _ _
  refine Calls.spliced_cons ?_
  refine wpAny_Call_Name_kw (ld_blt I hg2 hm2 boot_reversed ?_ (by decide) (by decide))
  refine PyProof.Rows.callWith_type1 (thn (ha pos2 pins s σ H _ I h) fun us s1 ⟨vs, H1, I1, r1, q1⟩ => ?_) he rfl
  obtain ⟨l, xs, rfl, hq, q⟩ := q1
  obtain ⟨u, rfl, rx⟩ := vals1 r1
  cases rx
  obtain ⟨its, rv, pl, hz⟩ := I1.list hq
  have hl := rv.length
  refine call_reversed_list pl.isList ?_
  refine Calls.spliced_nil ?_
  have I2 : Inv X pins σ H1 { s1 with heap := s1.heap.push (revObj l ((its.toArray.size : Int) - 1)), toks := s1.toks } := I1.kept fun b o e => Heap.get?_push_of_some _ e
  refine list_of_rev (I := s1.heap.objs.size) (items := its.toArray) (I2.ok.hd hc) ⟨_, Heap.get?_push_size _ rfl, rfl, rfl⟩ (pl.isList.push _) (by rw [List.size_toArray]; omega) fun h' c tk hold hS => ?_
  have szp : (s1.heap.push (revObj l ((its.toArray.size : Int) - 1))).objs.size = s1.heap.objs.size + 1 := Heap.size_push ..
  have kp : ∀ b o, s1.heap.get? b = some o → h'.get? b = some o := fun b o e => hold b o (Nat.ne_of_lt (Heap.lt_size e)) (Heap.get?_push_of_some _ e)
  have I3 : Inv X pins σ (upd H1 (s1.heap.push (revObj l ((its.toArray.size : Int) - 1))).objs.size (.lst xs.reverse)) { s1 with heap := h', toks := tk } :=
    I1.laid (t' := tk) kp (by rw [szp]; exact Nat.le_succ _) (show ObjOk X.prog X.w _ _ _ (.lst xs.reverse) from ⟨by rw [List.length_reverse]; omega, its.reverse, c, rv.reverse, by rw [hS]; simp⟩)
  exact ⟨.ref _, _, I3, rfl, q _ (I1.hok.fresh (by rw [szp]; exact Nat.le_succ _))⟩
def n_rev : List D → (List D → Prop) → Prop := fun ds P => match ds with | [.lst xs] => P xs.reverse | _ => False
theorem qf_lrev {X : Cx} {F0 H0 : Hp} {a : Expr} {t : TF2} {p p2 pos pos2 : Pos} (hc : X.calm = true) (hg : Gl X "list") (hm : X.mg "list" = none) (hg2 : Gl X "reversed") (hm2 : X.mg "reversed" = none) (ha : QA X F0 H0 [a] t)
    (he : starEach [a] X.env = (false, eval a X.env) :: starEach [] X.env := by rfl) (he2 : starEach [.Call (.Name "reversed" p2) [a] [] pos2] X.env = (false, eval (.Call (.Name "reversed" p2) [a] [] pos2) X.env) :: starEach [] X.env := by rfl) :
    QF X F0 H0 (.Call (.Name "list" p) [.Call (.Name "reversed" p2) [a] [] pos2] [] pos) (fCB n_rev t) := fun z E cx => by
  refine peC (pe_lrev (X := X.wsh z) hc hg hm hg2 hm2 (ha z E cx) (by decide +kernel) he he2) fun σ H Q ⟨F, Γ, P, R, h, k⟩ => ?_
  refine ⟨F, Γ, _, R, h, fun ds Γ1 F1 H1 vs R1 s1 r1 h1 => ?_⟩
  unfold n_rev at h1
  split at h1
  · unfold Reps Reps Rep at r1
    obtain ⟨v, _, rfl, ⟨l, us, rfl, hq, rs⟩, rfl⟩ := r1
    refine ⟨l, us, rfl, R1.g.seq hq, fun q hq0 => ?_⟩
    obtain ⟨R2, q1, q2, q3, ap⟩ := new_lst R1 hq0 (reps_rev rs)
    exact k _ Γ1 F1 _ q _ R2 s1 q1 q2 q3 (reps_rev rs) ap h1
  · exact h1.elim
end L3

namespace L3
open PySem PySem.Spec PyProof.Rows L2

theorem refuse_tail {K : PySem.W.Frag} (self : Value) : ∀ {l : List Value}, PySem.W.tailIn K vMro l = true → refuseLoop self "__setattr__" l = pure ()
  | [], e => by unfold PySem.W.tailIn at e; cases e
  | v :: r, e => by
    unfold PySem.W.tailIn at e
    rcases Bool.or_eq_true_iff.mp e with q | q
    · rw [beq_iff_eq.mp q]; exact PySem.F.store_ValueError.passes self
    · split at q
      · split at q
        · simp only [Bool.and_eq_true, beq_iff_eq] at q
          rw [refuseLoop_ref]; exact refuse_tail self q.2
        · cases q
      · cases q
structure ExcI (K : PySem.W.Frag) (C : Addr) : Prop where
  cls : excB K C = true
  g : ExcG K C
  sa : PySem.W.findIn K (.ref C) "__setattr__" = some (some (.builtin "object.__setattr__"))
  hd : PySem.W.hasDictIn K C = true

section
variable {prog : Program} {w : World} {A : Around} {E : Value → Shared → Prop} {K : PySem.W.Frag} {h : Heap} {g : Array GenState} {d : Drawn} {t : Nat} {os : OsState} {x C : Addr} {o : Obj} {name : Str} {v : Value}
theorem exc_store {Q : Unit → Shared → Prop} (X : K.In h) (c : ExcI K C) (hn : NoAttr K C name) (hx : h.get? x = some o) (hc : o.cls = .ref C) (hnc : PySem.W.notCls o = true) (hd : o.dict = none)
    (hq : ∀ h' tk', h'.Ns1 h.objs.size (fun y => if y = name then some v else none) → h'.get? x = some { o with dict := some h.objs.size } → (∀ b u, b ≠ x → h.get? b = some u → h'.get? b = some u) → Q () ⟨h', g, d, tk', os⟩) :
    wpAny (model prog w) A (setAttr (.ref x) name v) Q E ⟨h, g, d, t, os⟩ := by
  have SF := PySem.F.store_ValueError
  have J : PySem.W.InstAt h x o C none := ⟨hx, hc, hnc, by rw [hd]; trivial⟩
  refine PySem.W.set_plain (s := ⟨h, g, d, t, os⟩) X J c.sa ?_
  obtain ⟨bm, N, nm, qn, bs, hdct, sn, sub, ab, col, dd, k0, k1, k2, k3, k5, e1, T, ht, cd, hcd, hmro⟩ := excB_obj X c.cls
  have sub : PySem.W.Looks (model prog w) h (isInstance (.ref x) (.type "object")) true := J.type.andThen (PySem.W.looks_mroIn X c.g.ob)
  refine codeAny_call_builtin SF.slot.plain SF.entry (@PySem.W.check_slot (model prog w) _ _ ⟨h, g, d, t + 1, os⟩ "object.__setattr__" "object" "__setattr__" (.ref x) [.str name t, v] [] _ SF.kind SF.split sub (SF.args (.ref x) (.str name t) v) ?_)
  have hm : PySem.W.Looks (model prog w) h (mroOf (.ref C)) cd.mro := (PySem.W.looks_clsIn X hcd).andThen .now
  rw [PySem.W.osa_eq, refuse_eq]
  refine wpAny_bind (wpAny_bind (PySem.W.Looks.here (s := ⟨h, g, d, t + 1, os⟩) J.type (wpAny_bind (PySem.W.Looks.here (s := ⟨h, g, d, t + 1, os⟩) hm ?_))))
  rw [hmro, refuseLoop_ref, refuse_tail _ ht]
  refine wpAny_pure (wpAny_bind (PySem.W.Looks.here (s := ⟨h, g, d, t + 1, os⟩) J.type (wpAny_bind (PySem.W.Looks.here (s := ⟨h, g, d, t + 1, os⟩) (PySem.W.looks_findIn X hn) (wpAny_bind (wpAny_pure ?_))))))
  dsimp only
  obtain ⟨cd', hc', hd'⟩ := PySem.W.any_some c.hd
  obtain ⟨oc, od, oda, osl⟩ := o
  dsimp only at hc hd hnc
  subst hc hd
  refine wpAny_bind (wpAny_pure (wpAny_bind (wpAny_bind (wpAny_loadPart hx (wpAny_bind (PySem.W.Looks.here (s := ⟨h, g, d, t + 1, os⟩) (PySem.W.looks_clsIn X hc') ?_))))))
  rw [hd']
  rw [if_neg (by decide)]
  dsimp only
  rw [if_neg (by simp [typeHasDict])]
  have body : wpAny (model prog w) A.in1 (alloc { cls := .type "dict", data := .dict #[] } >>= fun d => (update x fun o => { o with dict := some d }) >>= fun _ => dictMade (.ref C) x d) (fun a s' => ∃ dx, a = some dx ∧ wpAny (model prog w) A.in1 (Builtin.ObjectAttr.storeInDict dx (.str name t) name v) (fun fin s' => fin = .done (.ret .none) ∧ Q () s') (fun _ _ => False) s') (fun _ _ => False) ⟨h, g, d, t + 1, os⟩ := by
    have hx₁ : (h.push { cls := .type "dict", data := .dict #[] }).get? x = some ⟨.ref C, none, oda, osl⟩ := Heap.get?_push_of_some _ hx
    have hxs : x ≠ h.objs.size := Nat.ne_of_lt (Heap.lt_size hx)
    refine wpAny_bind (wpAny_alloc' (wpAny_bind (wpAny_update' hx₁ ?_)))
    refine wpAny_pure ⟨_, rfl, ?_⟩
    have hgd : ((h.push { cls := .type "dict", data := .dict #[] }).update x fun o => { o with dict := some h.objs.size }).get? h.objs.size = some { cls := .type "dict", data := .dict #[] } :=
      (Heap.get?_update_ne _ _ _ _ (Ne.symm hxs)).trans (Heap.get?_push_at rfl rfl)
    have hnd : ((h.push { cls := .type "dict", data := .dict #[] }).update x fun o => { o with dict := some h.objs.size }).Ns h.objs.size (fun _ => none) :=
      ⟨_, #[], _, hgd, rfl, fun e he => absurd he (by simp), fun _ => rfl⟩
    unfold Builtin.ObjectAttr.storeInDict Builtin.ObjectAttr.newKeyGuard
    refine wpAny_bind (wpAny_pure (wpAny_bind (wpAny_nsSet1 (Heap.Ns1.of_empty hnd) fun h' hn' hs => ?_)))
    obtain ⟨oD, esD, epD, hoD, hdD, hcD⟩ := hn'.count (Within.cons name v Within.nil)
    refine wpAny_bind (wpAny_lookBehind hoD (by rw [hdD]; exact pastItsLine_dict (Nat.le_trans hcD (by rw [List.length_cons, List.length_nil, sizeLine_eq]; omega))) ?_)
    have hx' : h'.get? x = some ⟨.ref C, some h.objs.size, oda, osl⟩ := by
      refine (hs.2 x hxs).trans (Heap.get?_update_self _ hx₁ ?_)
      have hfr := (Heap.get?_some_iff.mp hx).2
      cases oda <;> first | rfl | exact hfr
    refine wpAny_pure (α := _) ⟨rfl, hq h' _ ?_ hx' fun b ob hbx hb => ?_⟩
    · exact hn'
    · exact (hs.2 b (Nat.ne_of_lt (Heap.lt_size hb))).trans ((Heap.get?_update_ne _ _ _ _ hbx).trans (Heap.get?_push_of_some _ hb))
  have fin : ∀ a s', (∃ dx, a = some dx ∧ wpAny (model prog w) A.in1 (Builtin.ObjectAttr.storeInDict dx (.str name t) name v) (fun fin s' => fin = .done (.ret .none) ∧ Q () s') (fun _ _ => False) s') → wpAny (model prog w) A.in1 (match a with | some d => Builtin.ObjectAttr.storeInDict d (Value.str name t) name v | none => Builtin.ObjectAttr.noDictFor (Value.ref x) (Value.ref C) name false) (fun fin s' =>
          match fin with
          | Fin.done f =>
            match Except.ok f with
            | Except.ok (Flow.ret v) => Q () s'
            | Except.ok a => False
            | Except.error e => E e s'
          | Fin.again c' =>
            c'.quiet = true ∧
              codeAny (model prog w) A c'
                (fun r s' =>
                  match r with
                  | Except.ok (Flow.ret v) => Q () s'
                  | Except.ok a => False
                  | Except.error e => E e s')
                s') (fun e s' => E e s') s' := by
    rintro a s' ⟨dx, rfl, z⟩
    exact wpAny_mono z (fun f s2 ⟨e, q⟩ => by subst e; exact q) fun _ _ q => q.elim
  cases oda with
  | cls c => cases hnc
  | _ => exact wpAny_mono body fin fun _ _ q => q.elim
end
end L3

namespace L3
open PySem PySem.Spec PyProof.Rows L2
section
variable {prog : Program} {w : World} {A : Around} {E : Value → Shared → Prop} {K : PySem.W.Frag} {h : Heap} {g : Array GenState} {d : Drawn} {t : Nat} {os : OsState} {x C dx : Addr} {o : Obj} {name : Str} {v : Value} {mA : Str → Option Value}
theorem exc_fld {expr : Bool} {Q : Value → Shared → Prop} (X : K.In h) (c : ExcI K C) (hn : NoAttr K C name) (hx : h.get? x = some o) (hc : o.cls = .ref C) (hnc : PySem.W.notCls o = true) (hd : o.dict = some dx) (hA : h.Ns1 dx mA) (hv : mA name = some v) (hv' : PySem.W.handedIn v = true)
    (hq : Q v ⟨h, g, d, t + 1, os⟩) : wpAny (model prog w) A (getAttr (.ref x) name expr) Q E ⟨h, g, d, t, os⟩ := by
  obtain ⟨od, ho, hl⟩ := lookIn_ns hA
  have J : PySem.W.InstAt h x o C (some od) := ⟨hx, hc, hnc, by rw [hd]; exact ho⟩
  have LF : PySem.W.Looks (model prog w) h (Builtin.ObjectAttr.find (.ref x) (.ref C) name) (.value v) := PySem.W.looks_find X J (PySem.W.findObj_own c.hd hn rfl (by rw [hl, hv]))
  have L0 : PySem.W.Looks (model prog w) h (typeOf (.ref x)) (.ref C) := J.type
  have L1 := PySem.W.looks_findIn (M := model prog w) X c.g.ga
  have L2' := PySem.W.looks_findIn (M := model prog w) X c.g.gn
  have b3 := PySem.F.excAttr_ValueError.ga.bind (.ref x)
  unfold getAttr getAttrBy
  refine wpAny_bind (wpAny_mkText (wpAny_holding (wpAny_bind (L0.at (wpAny_bind (L1.at ?_))))))
  have hx2 : (onTheHeap (Value.ref C) && Value.builtin "BaseException.__getattribute__" == Value.builtin "object.__getattribute__") = false := by
    rw [show (Value.builtin "BaseException.__getattribute__" == Value.builtin "object.__getattribute__") = false by decide +kernel, Bool.and_false]
  simp only [hx2, Bool.false_eq_true, if_false]
  unfold getAttrByItsOwn hookBefore callGetattribute
  simp only [show onTheHeap (Value.ref C) = true from rfl, if_true]
  refine wpAny_bind (L2'.at ?_)
  simp only [show onTheHeap (Value.builtin "BaseException.__getattribute__") = false from rfl, Bool.and_false, Bool.false_eq_true, if_false]
  unfold boundAndCalled
  refine wpAny_bind (wpAny_attempt (wpAny_holding (wpAny_bind (wpAny_of_eq b3 ?_))))
  refine wpAny_call (codeAny_call_builtin PySem.F.excAttr_ValueError.ga.plain F.entry_bexc_ga (exc_cls_check X c.g hx hc ?_))
  unfold Builtin.«object.__getattribute__»
  refine wpAny_bind (wpAny_pure (α := _) ?_)
  refine wpAny_bind (wpAny_pure (α := _) ?_)
  refine wpAny_bind (L0.at (wpAny_bind (LF.at ?_)))
  exact wpAny_pure (α := _) (PySem.W.handed_on hv' hq)

theorem exc_make0 {f : Addr} {rest : List Value} {Q : Fin → Shared → Prop} (X : K.In h) (hC : excB K C = true) (hi : PySem.W.findIn K (.ref C) "__init__" = some (some (.ref f))) (hf : PySem.W.typeIn K (.ref f) = some (.type "function"))
    (hq : wpAny (model prog w) A (call (.ref f) (.ref (h.objs.size + 1) :: rest)) (fun r s' => r = .none ∧ Q (.done (.ret (.ref (h.objs.size + 1)))) s') E
      ⟨(h.push { cls := .type "tuple", data := .seq rest.toArray }).push { cls := .ref C, data := .fields #[.ref h.objs.size, .none, .none, .none, .bool false, .none] }, g, d, t, os⟩) (hrest : rest.length ≤ sizeLine) :
    wpAny (model prog w) A (Builtin.«type.__call__» ⟨.ref C :: rest, []⟩) Q E ⟨h, g, d, t, os⟩ := by
  obtain ⟨bm, N, nm, qn, bs, hdct, sn, sub, ab, col, dd, k0, k1, k2, k3, k5, hC, T, ht, cd, hcd, hmro⟩ := excB_obj X hC
  have Fv := PySem.F.excBase_ValueError
  repeat (first | with_reducible refine wpAny_loadPart_at hC ?_ | with_reducible refine wpAny_madeBy_exc hC ?_ | wp_step)
  refine codeAny_call_builtin_code (Code.quiet_builtin _ Fv.quiet) (wpAny_check_new_subU Fv Fv.hasB T hC ?_)
  refine codeAny_exc_new_subU Fv Fv.hasB Fv T hC ?_ hrest
  show wpAny _ _ _ _ _ _
  have X1 : K.In ((h.push { cls := .type "tuple", data := .seq rest.toArray }).push { cls := .ref C, data := .fields #[.ref h.objs.size, .none, .none, .none, .bool false, .none] }) := X.keeps fun b o e => Heap.get?_push_of_some _ (Heap.get?_push_of_some _ e)
  have hC₁ := Heap.get?_push_of_some { cls := .ref C, data := .fields #[.ref h.objs.size, .none, .none, .none, .bool false, .none] }
    (Heap.get?_push_of_some { cls := .type "tuple", data := .seq rest.toArray } hC)
  have hget : ((h.push { cls := .type "tuple", data := .seq rest.toArray }).push { cls := .ref C, data := .fields #[.ref h.objs.size, .none, .none, .none, .bool false, .none] }).get? (h.objs.size + 1) = some
      { cls := .ref C, data := .fields #[.ref h.objs.size, .none, .none, .none, .bool false, .none] } := by heap_get
  have hcC : (Value.ref C :: bm).contains (.ref C) = true := by simp
  have LI := PySem.W.looks_findIn (M := model prog w) X1 hi
  unfold isInstance
  repeat (first | with_reducible refine wpAny_loadPart_at hget ?_ | (with_reducible refine wpAny_isSubtype_exc hC₁ ?_; rw [hcC]) | wp_step)
  show wpAny _ _ (typeLookup (.ref C) _) _ _ _
  refine LI.at ?_
  refine wpAny_holding (wpAny_bind ?_)
  refine (PySem.W.bind_fn X1 (.ref (h.objs.size + 1)) hf).at ?_
  refine wpAny_bind (wpAny_mono hq (fun r s' hr => ?_) fun _ _ z => z)
  obtain ⟨rfl, hQ⟩ := hr
  wp_walk
  exact hQ
theorem exc_made {f : Addr} {rest : List Value} {Q : Value → Shared → Prop} (X : K.In h) (hC : excB K C = true) (hi : PySem.W.findIn K (.ref C) "__init__" = some (some (.ref f))) (hf : PySem.W.typeIn K (.ref f) = some (.type "function"))
    (hq : wpAny (model prog w) (A.under (.builtin "type.__call__" ⟨.ref C :: rest, []⟩)) (call (.ref f) (.ref (h.objs.size + 1) :: rest)) (fun r s' => r = .none ∧ Q (.ref (h.objs.size + 1)) s') E
      ⟨(h.push { cls := .type "tuple", data := .seq rest.toArray }).push { cls := .ref C, data := .fields #[.ref h.objs.size, .none, .none, .none, .bool false, .none] }, g, d, t, os⟩) (hrest : rest.length ≤ sizeLine) :
    wpAny (model prog w) A (call (.ref C) rest) Q E ⟨h, g, d, t, os⟩ := by
  obtain ⟨bm, N, nm, qn, bs, hdct, sn, sub, ab, col, dd, k0, k1, k2, k3, k5, hC', T, ht, cd, hcd, hmro⟩ := excB_obj X hC
  have f1 := tc_lookup
  have f2 := tc_bind (.ref C)
  have hT : (⟨h, g, d, t, os⟩ : Shared).TypeIs (.ref C) "type" := ⟨_, hC', rfl⟩
  refine wpAny_call (codeAny_of_tree ?_)
  show wpAny _ _ (callAny (.ref C) _) _ _ _
  repeat (any_goals (first | assumption | with_reducible refine wpAny_loadPart_at hC' ?_ | wp_step))
  refine ⟨rfl, ?_⟩
  exact codeAny_call_builtin_at (Code.quiet_builtin _ (by decide +kernel)) entry_typeCall (wpAny_check_type_call_sub hC' (exc_make0 X hC hi hf hq hrest))
theorem exc_words {t0 : Addr} {od : Option Addr} {sl : Array (Option Value)} {rest : List Value} {Q : Value → Shared → Prop} (X : K.In h) (hC : excB K C = true) (hx : h.get? x = some ⟨.ref C, od, .fields #[.ref t0, .none, .none, .none, .bool false, .none], sl⟩) (hrest : rest.length ≤ sizeLine)
    (hq : ∀ h', (∀ b u, b ≠ x → h.get? b = some u → h'.get? b = some u) → h'.get? x = some ⟨.ref C, od, .fields #[.ref h.objs.size, .none, .none, .none, .bool false, .none], sl⟩ → Q .none ⟨h', g, d, t, os⟩) :
    wpAny (model prog w) A (call (.builtin "ValueError.__init__") (.ref x :: rest)) Q E ⟨h, g, d, t, os⟩ := by
  obtain ⟨bm, N, nm, qn, bs, hdct, sn, sub, ab, col, dd, k0, k1, k2, k3, k5, hC, T, ht, cd, hcd, hmro⟩ := excB_obj X hC
  have Fv := PySem.F.excBase_ValueError
  refine wpAny_call (codeAny_call_builtin Fv.init.plain Fv.initEntry (wpAny_check_init_subU Fv T hC hx rfl ?_))
  have hx1 : (h.push { cls := .type "tuple", data := .seq rest.toArray }).get? x = some ⟨.ref C, od, .fields #[.ref t0, .none, .none, .none, .bool false, .none], sl⟩ := Heap.get?_push_of_some _ hx
  wp_walk
  refine hq _ (fun b u hb e => ?_) ?_
  · rw [Heap.get?_update_other _ _ (Ne.symm hb)]
    exact Heap.get?_push_of_some _ e
  · rw [Heap.get?_update_self _ hx1 rfl]
    rfl
theorem exc_raise {M : Model} {env : Env} {s : Shared} {m : Sem Value} {Q : Flow → Shared → Prop} (hC : excB K C = true) (hh : A.handled = none)
    (hm : wpAny M A m (fun v s₁ => ∃ e oe fv, v = .ref e ∧ K.In s₁.heap ∧ s₁.heap.get? e = some oe ∧ oe.cls = .ref C ∧ oe.data = .fields #[.ref fv, .none, .none, .none, .bool false, .none] ∧ E (.ref e) s₁) E s) : wpAny M A (raiseStmt env (some m) none) Q E s := by
  unfold raiseStmt
  refine wpAny_bind (wpAny_mono hm (fun v s₁ h₁ => ?_) fun _ _ x => x)
  obtain ⟨e, oe, fv, rfl, X, he, hc, hda, hE⟩ := h₁
  obtain ⟨bm, N, nm, qn, bs, hdct, sn, sub, ab, col, dd, k0, k1, k2, k3, k5, hC, T, ht, cd, hcd, hmro⟩ := excB_obj X hC
  have hcB : (Value.ref C :: bm).contains (.type "BaseException") = true := by rw [List.contains_cons, T.hasType PySem.F.excBase_ValueError.hasBase, Bool.or_true]
  obtain ⟨hp, g, d, tk, os⟩ := s₁
  obtain ⟨oc, od, oda, osl⟩ := oe
  dsimp only at hc hda
  subst hc hda
  repeat (first | with_reducible refine wpAny_loadPart_at he ?_ | with_reducible refine wpAny_loadPart_at hC ?_ | (with_reducible refine wpAny_isSubtype_exc hC ?_; rw [hcB]) | wp_step)
  exact wpAny_raiseNew_none hh hE
theorem exc_Raise {env : Env} {s : Shared} {f : Addr} {y : Str} {np cpos pos : Pos} {args : List Expr} {Q : Flow → Shared → Prop} (hC : excB K C = true) (hh : A.handled = none) (hplain : (backTo cpos (starEach args env)).any (·.1) = false)
    (hi : PySem.W.findIn K (.ref C) "__init__" = some (some (.ref f))) (hf : PySem.W.typeIn K (.ref f) = some (.type "function"))
    (h : wpAny (model prog w) A (eval (.Name y np) env) (fun fv s₁ => fv = .ref C ∧ wpAny (model prog w) A (evalArgs (.ref C) true (backTo cpos (starEach args env)) [])
      (fun a s₂ => a.kw = [] ∧ a.pos.length ≤ sizeLine ∧ K.In s₂.heap ∧
        wpAny (model prog w) (A.under (.builtin "type.__call__" ⟨.ref C :: a.pos, []⟩)) (call (.ref f) (.ref (s₂.heap.objs.size + 1) :: a.pos)) (fun r s' => r = .none ∧ ∃ oe fv, K.In s'.heap ∧ s'.heap.get? (s₂.heap.objs.size + 1) = some oe ∧ oe.cls = .ref C ∧ oe.data = .fields #[.ref fv, .none, .none, .none, .bool false, .none] ∧ E (.ref (s₂.heap.objs.size + 1)) s') E
          { s₂ with heap := (s₂.heap.push { cls := .type "tuple", data := .seq a.pos.toArray }).push { cls := .ref C, data := .fields #[.ref s₂.heap.objs.size, .none, .none, .none, .bool false, .none] } }) E s₁) E s) :
    wpAny (model prog w) A (exec (.Raise (some (.Call (.Name y np) args [] cpos)) none pos) env) Q E s := by
  rw [arm_exec_Raise]
  refine wpAny_bind (wpAny_standAt (exc_raise hC hh ?_))
  refine wpAny_bind (wpAny_mono (wpAny_Call_ofName (wpAny_mono h (fun fv s₁ h₁ => ?_) fun _ _ x => x)) (fun v s₃ h₃ => wpAny_bind (wpAny_standAt (wpAny_pure h₃))) fun _ _ x => x)
  obtain ⟨rfl, h₁⟩ := h₁
  unfold callWith
  refine wpAny_bind (wpAny_holding (wpAny_mono h₁ (fun a s₂ h₂ => wpAny_bind (wpAny_standAt ?_)) fun _ _ x => x))
  obtain ⟨apos, akw⟩ := a
  obtain ⟨hkw, hlen, X, h₂⟩ := h₂
  obtain rfl : akw = [] := hkw
  obtain ⟨hp, g, d, tk, os⟩ := s₂
  obtain ⟨bm, N, nm, qn, bs, hdct, sn, sub, ab, col, dd, k0, k1, k2, k3, k5, hC', T, ht, cd, hcd, hmro⟩ := excB_obj X hC
  simp only [hplain]
  refine wpAny_bind (wpAny_keeperOf_exc hC' ?_)
  refine wpAny_bind (exc_made X hC hi hf (wpAny_mono h₂ (fun r s' hr => ⟨hr.1, wpAny_bind (wpAny_holding (wpAny_point (wpAny_pure ?_)))⟩) fun _ _ z => z) hlen)
  obtain ⟨_, oe, fv, X', he, hc, hda, hE⟩ := hr
  exact ⟨_, oe, fv, rfl, X', he, hc, hda, hE⟩
end
end L3

namespace L3
open PySem PySem.Spec PyProof.Rows L2

def XO (e C : Addr) (od : Option Addr) : HO := .ext fun h => ∃ t, h.get? e = some ⟨.ref C, od, .fields #[.ref t, .none, .none, .none, .bool false, .none], #[]⟩
theorem xo_get {P : Program} {w : World} {H : Hp} {h : Heap} {e C : Addr} {od : Option Addr} (hok : HOk P w H h) (q : H e = some (XO e C od)) : ∃ t, h.get? e = some ⟨.ref C, od, .fields #[.ref t, .none, .none, .none, .bool false, .none], #[]⟩ := (hok e _ q).1
theorem xo_ok {P : Program} {w : World} {H : Hp} {h : Heap} {e C t : Addr} {od : Option Addr} (q : h.get? e = some ⟨.ref C, od, .fields #[.ref t, .none, .none, .none, .bool false, .none], #[]⟩) : ObjOk P w H h e (XO e C od) :=
  ⟨⟨t, q⟩, ⟨_, q⟩, fun _ _ ⟨u, z⟩ st => ⟨u, st _ z⟩⟩
theorem obj_there {P : Program} {w : World} {H : Hp} {h : Heap} {b : Addr} {u : HO} (k : ObjOk P w H h b u) : ∃ o, h.get? b = some o := by
  cases u with
  | lst xs => obtain ⟨_, _, _, _, e⟩ := k; exact ⟨_, e⟩
  | tup xs => obtain ⟨_, _, _, o, e, _⟩ := k; exact ⟨_, e⟩
  | dK kvs => obtain ⟨_, _, _, _, o, _, _, e, _⟩ := k; exact ⟨_, e⟩
  | dT kvs => obtain ⟨_, _, _, _, o, _, _, e, _⟩ := k; exact ⟨_, e⟩
  | set S n => obtain ⟨o, _, _, _, e, _⟩ := k; exact ⟨_, e⟩
  | ins C dx fs => obtain ⟨_, _, _, e, _⟩ := k; exact ⟨_, e⟩
  | own y => exact k
  | xd fs => obtain ⟨_, ⟨_, _, _, e, _⟩, _⟩ := k; exact ⟨_, e⟩
  | rng lo hi => obtain ⟨_, _, _, e⟩ := k; exact ⟨_, e⟩
  | frz ob u => obtain ⟨e, _⟩ := k; exact ⟨_, e⟩
  | tbl ps => exact ⟨_, (show h.get? b = some _ from k)⟩
  | met f y => exact ⟨_, (show h.get? b = some _ from k)⟩
  | ext φ => obtain ⟨_, e, _⟩ := k; exact e

section
variable {X : Cx} {pins : List (Addr × Obj)} {σ : St} {H : Hp} {s : Shared} {A : Around} {E : Value → Shared → Prop} {a C dx : Addr} {f : Str} {y v : V} {u : Value} {fs : List (Str × V)}
theorem xset_ok {Q : Unit → Shared → Prop} (I : Inv X pins σ H s) (e : H a = some (XO a C none)) (c : ExcI X.K C) (n : NoAttr X.K C f) (ry : RelV y u)
    (h : ∀ dx s', H dx = none → dx ≠ a → Inv X pins σ (upd (upd H a (XO a C (some dx))) dx (.xd [(f, y)])) s' → Q () s') : wpAny (model X.prog X.w) A (setAttr (.ref a) f u) Q E s := by
  obtain ⟨t, hx⟩ := xo_get I.hok e
  obtain ⟨hp, g, d, tk, os⟩ := s
  have hlt : a < hp.objs.size := Heap.lt_size hx
  refine exc_store I.kIn c n hx rfl rfl rfl fun h' tk' ns hx' kp => h hp.objs.size _ (I.hok.fresh (Nat.le_refl _)) (Nat.ne_of_gt hlt) ?_
  have gs : (hp.update a fun o => { o with dict := some hp.objs.size }).get? a = some ⟨.ref C, some hp.objs.size, .fields #[.ref t, .none, .none, .none, .bool false, .none], #[]⟩ := Heap.get?_update_self _ hx rfl
  have I1 : Inv X pins σ (upd H a (XO a C (some hp.objs.size))) { (⟨hp, g, d, tk, os⟩ : Shared) with heap := hp.update a fun o => { o with dict := some hp.objs.size }, toks := tk } :=
    I.write (x := a) (e := a) (by rw [e]; exact True.intro) (.inl rfl) (fun b u hb z => (Heap.get?_update_other _ _ (Ne.symm hb)).trans z) ⟨_, gs⟩ (xo_ok gs)
  refine I1.laid (t' := tk') (fun b u z => ?_) (Nat.le_of_eq (Heap.size_update ..)) ⟨_, ns, fun g => ?_⟩
  · by_cases hb : b = a
    · subst hb
      rw [show (hp.update b fun o => { o with dict := some hp.objs.size }).get? b = _ from gs] at z
      cases z; exact hx'
    · exact kp b u hb ((Heap.get?_update_other _ _ (Ne.symm hb)).symm.trans z)
  · show RelO (List.lookup g [(f, y)]) (if g = f then some u else none)
    by_cases q : g = f
    · have hb : (g == f) = true := beq_iff_eq.mpr q
      simp only [List.lookup, hb, if_pos q]; exact ry
    · have hb : (g == f) = false := beq_eq_false_iff_ne.mpr q
      simp only [List.lookup, hb, if_neg q]; trivial
theorem xget_ok {b : Bool} {Q : Value → Shared → Prop} (I : Inv X pins σ H s) (e : H a = some (XO a C (some dx))) (ed : H dx = some (.xd fs)) (c : ExcI X.K C) (n : NoAttr X.K C f) (l : fs.lookup f = some v)
    (h : ∀ u s', Inv X pins σ H s' → RelV v u → Q u s') : wpAny (model X.prog X.w) A (getAttr (.ref a) f b) Q E s := by
  obtain ⟨t, hx⟩ := xo_get I.hok e
  obtain ⟨mA, ns, r⟩ := I.hok dx _ ed
  obtain ⟨u, hu, ru⟩ := RelO.some_of (v := v) (o := mA f) (by rw [← l]; exact r f)
  obtain ⟨hp, g, d, tk, os⟩ := s
  exact exc_fld I.kIn c n hx rfl rfl rfl ns hu (handed_of ru) (h u _ (I.tok _) ru)
end

def tXFld (C : Addr) (f : Str) (ta : TE) : TE := fun σ H Q => ta σ H fun x H1 => ∃ a dx fs v, x = .ref a ∧ H1 a = some (XO a C (some dx)) ∧ H1 dx = some (.xd fs) ∧ fs.lookup f = some v ∧ Q v H1
def sXFld (C : Addr) (f : Str) (ta tv : TE) : TS := fun D σ H => tv σ H fun y H1 => ta σ H1 fun x H2 => ∃ a, x = .ref a ∧ H2 a = some (XO a C none) ∧ ∀ dx, H2 dx = none → dx ≠ a → D.nx σ (upd (upd H2 a (XO a C (some dx))) dx (.xd [(f, y)]))
structure ExcA (K : PySem.W.Frag) (B : Addr) : Prop where
  sp : PySem.W.specialIn K (.ref B) "__getattribute__" = some (some (.builtin "type.__getattribute__"))
  rd : PySem.W.readsIn K B (.type "type") = true
  fi : PySem.W.findCls K (.ref B) (.type "type") "__init__" = some (.val (.builtin "ValueError.__init__"))
section
variable {X : Cx} {o e value : Expr} {f : Str} {pos pos' apos p : Pos} {ta tv : TE} {C B : Addr} {x : Str}
theorem pe_xfld (c : ExcI X.K C) (n : NoAttr X.K C f) (he : PE X e ta) (hb : attributeBase e f X.env (eval e X.env) = eval e X.env) : PE X (.Attribute e f pos) (tXFld C f ta) := by
  intro pins s σ H Q I h
  refine attr_of hb (thn (he pins s σ H _ I h) fun u s1 ⟨x, H1, I1, rx, a, dx, fs, v, ex, ea, ed, l, q⟩ => ?_)
  subst ex
  obtain rfl : u = Value.ref a := rx
  exact xget_ok I1 ea ed c n l fun u' s2 I2 ru => ⟨v, H1, I2, ru, q⟩
theorem ps_xfld (c : ExcI X.K C) (n : NoAttr X.K C f) (ha : PE X o ta) (hv : PE X value tv) (hs : swapsWith value (some (.Attribute o f pos')) pos.line X.env = pure false) : PS X (.Assign [.Attribute o f pos'] value pos) (sXFld C f ta tv) := by
  intro pins s σ H D I h
  refine plainObj_wpAny_Assign_Attribute (thn (hv pins s σ H _ I h) fun u s1 ⟨y, H1, I1, ry, q⟩ => thn (ha pins s1 σ H1 _ I1 q) fun ov s2 ⟨x, H2, I2, rx, a, ex, ea, q2⟩ => ?_) hs
  subst ex
  obtain rfl : ov = Value.ref a := rx
  exact xset_ok I2 ea c n ry fun dx s3 h1 h2 I3 => ⟨σ, _, I3, q2 dx h1 h2⟩
theorem pe_xinit {e2 : Expr} {t : TA} {pl : Sem Bool} (c : ExcI X.K C) (cb : ExcA X.K B) (hg : Gl X x) (hm : X.mg x = some (.ref B)) (ha : PA X [e, e2] t) (hd : (x == ("__debug__" : Str)) = false := by decide)
    (hst : starEach [e, e2] X.env = (false, eval e X.env) :: starEach [e2] X.env := by rfl) (hpl : (backTo pos (starEach [e2] X.env)).any (·.1) = false := by rfl)
    (ht : eval (.Call (.Attribute (.Name x p) "__init__" apos) [e, e2] [] pos) X.env = (do
      let ov ← eval (.Name x p) X.env
      standAt apos.atName
      let (f, first) ← holding [ov] (getMethod ov "__init__" pl)
      callWith pos f first (backTo pos (starEach [e, e2] X.env)) (backToKw pos (keywordEach [] X.env))) := by rfl) :
    PE X (.Call (.Attribute (.Name x p) "__init__" apos) [e, e2] [] pos) (fun σ H Q => t σ H fun vs H1 => ∃ a od v, vs = [.ref a, v] ∧ H1 a = some (XO a C od) ∧ Q .non (upd H1 a (XO a C od))) := by
  intro pins s σ H Q I h
  refine PySem.W.methodCall_KW (pl := pl) (ld_glob I hg hm ?_ hd) ht
  refine PySem.W.method_cls I.kIn cb.sp (PySem.W.cls_value I.kIn cb.rd cb.fi rfl ?_)
  have I0 := I.tok (s.toks + 1)
  refine PyProof.Rows.callWith_builtin1 (thn (ha pos pins _ σ H _ I0 h) fun us s1 ⟨vs, H1, I1, r, a, od, v, ev, ea, q⟩ => ?_) hst hpl
  subst ev
  obtain ⟨u, u2, rfl, ru, ru2⟩ := vals2 r
  obtain rfl : u = Value.ref a := ru
  obtain ⟨t0, hx⟩ := xo_get I1.hok ea
  obtain ⟨hp, g, d, tk, os⟩ := s1
  refine exc_words I1.kIn c.cls hx (by rw [List.length_cons, List.length_nil, sizeLine_eq]; omega) fun h' kp hx' => ⟨.non, _, I1.write (x := a) (e := a) (by rw [ea]; exact True.intro) (.inl rfl) (fun b u hb z => kp b u hb z) ⟨_, hx'⟩ (xo_ok hx'), rfl, q⟩
end
end L3

namespace L3
open PySem PySem.Spec PyProof.Rows L2

def CallForm (bn : Str) (p apos pos : Pos) (args : List Expr) (env : Env) (pl : Sem Bool) : Prop := eval (.Call (.Attribute (.Name bn p) "__init__" apos) args [] pos) env = (do
      let ov ← eval (.Name bn p) env
      standAt apos.atName
      let (f, first) ← holding [ov] (getMethod ov "__init__" pl)
      callWith pos f first (backTo pos (starEach args env)) (backToKw pos (keywordEach [] env)))
def spXInit (K : PySem.W.Frag) (C : Addr) (f : Str) (sp : Sp2) : Sp := fun vs H Q E => ∃ x rest F ds Pd Ex, vs = .ref x :: rest ∧ H x = some (XO x C none) ∧ Same F H ∧ F x = none ∧ Reps K F ds rest ∧ sp ds Pd Ex ∧
  (∀ d F' H3 v dx H', Gr F H F' H3 → Rep K F' d v → Pd d → H3 dx = none → dx ≠ x → H' x = some (XO x C (some dx)) → H' dx = some (.xd [(f, v)]) → (∀ b, b ≠ x → b ≠ dx → H' b = H3 b) → Q .non H') ∧ ∀ C' H', Ex C' → Same H H' → E C' none H'
section
variable {P : Program} {w : World} {K : PySem.W.Frag} {mg : Str → Option Value} {base : Heap}
theorem fn_xinit {x qual : Str} {st : Stmt} {f : Addr} {fd : FuncData} {N ps : List Str} {k : Nat} {sp : Sp2} {C B : Addr} {fl bn : Str} {value : Expr} {p1 p2 p3 p4 p5 p6 p7 p8 p9 p10 : Pos} (Fn : Fun K x qual st f fd)
    (hbd : defBody st = [.Assign [.Attribute (.Name "self" p1) fl p2] value p3, .Expr (.Call (.Attribute (.Name bn p4) "__init__" p5) [.Name "self" p6, .Attribute (.Name "self" p7) fl p8] [] p9) p10]) (S : FnScope N ("self" :: ps) (defScope st))
    (hc : ExcI K C) (hB : ExcA K B) (hmB : mg bn = some (.ref B)) (hn : NoAttr K C fl) (hN : N[0]? = some ("self" : Str)) (hvis : Vis (defScope st) "self") (len : ∀ ds Q E, sp ds Q E → ds.length = ps.length)
    (hdb : (bn == ("__debug__" : Str)) = false)
    (hbody : ∀ (cdv : Value) (A : Around) (outer : List Env) (s : Shared) (H : Hp) (E : XK), Room k (A.deeper (envOfC qual (defScope st) s.heap.objs.size f cdv)) → ∀ F0 : Hp,
      Gl (cxOf (CX1 P w) P w K mg base N qual (defScope st) f cdv A outer s H E) bn ∧
      swapsWith value (some (.Attribute (.Name "self" p1) fl p2)) p3.line (cxOf (CX1 P w) P w K mg base N qual (defScope st) f cdv A outer s H E).env = pure false ∧
      (∃ pl, CallForm bn p4 p5 p9 [.Name "self" p6, .Attribute (.Name "self" p7) fl p8] (cxOf (CX1 P w) P w K mg base N qual (defScope st) f cdv A outer s H E).env pl) ∧
      ∃ te, QE (cxOf (CX1 P w) P w K mg base N qual (defScope st) f cdv A outer s H E) F0 H value te ∧
        ∀ a ds Q Ex, sp ds Q Ex → te (start2 N (.ptr a :: ds)) (fun d Γ' => Γ'[0]? = some (.pu (.ptr a)) ∧ Q d) fun _ => Ex) :
    FnOk P w K mg base (CX1 P w) (k + 1) f fd ("self" :: ps) (spXInit K C fl sp) := by
  obtain ⟨oc, od, kV, doc, pm, an, cdv, ct, osl, rfl, lk, hcd⟩ := Fn.ex
  refine fn_of lk hcd S (fun vs H Q E ⟨x, rest, F, ds, Pd, Ex, e, _, _, _, rs, hs, _⟩ => by rw [e, List.length_cons, List.length_cons, ← reps_len rs, len _ _ _ hs]) fun A outer s H vs Q E hr ⟨a, rest, F0, ds, Pd, Ex, ev, hx, sF, fx, rs, hsp, hQ, hE⟩ => ?_
  subst ev
  obtain ⟨hgB, hsw, ⟨pl, hpl⟩, te, hte, hq⟩ := hbody cdv A outer s H E hr F0
  have cx : Ctx ((cxOf (CX1 P w) P w K mg base N qual (defScope st) f cdv A outer s H E).wsh ⟨(cxOf (CX1 P w) P w K mg base N qual (defScope st) f cdv A outer s H E).xe, []⟩) F0 H (fun _ => Ex) := by
    refine ⟨fun pins σ Γ F H1 s1 e s' I R hx => ?_, PassesOwn.leaving⟩
    refine thn (pass_leave (E := fun C dx H' => E C dx H') I rfl rfl rfl (hx.imp fun C dx H' z => ?_)) fun _ s'' z => z
    obtain ⟨z1, rfl, z3⟩ := z
    exact hE C H' z1 (R.gr.h.trans z3)
  rw [hbd]
  have pself : ∀ q, PE (cxOf (CX1 P w) P w K mg base N qual (defScope st) f cdv A outer s H E) (.Name "self" q) (tVar 0) := fun q => pe_var (i := 0) hN hvis
  refine ⟨_, pss_cons (ps_xfld hc hn (pself p1) (hte _ _ cx) hsw) (pss_one (ps_expr (pe_xinit hc hB hgB hmB (pa_cons (pself p6) (pa_cons (pe_xfld hc hn (pself p7) rfl) pa_nil)) hdb rfl rfl hpl))), ?_⟩
  refine ⟨F0, start2 N (.ptr a :: ds), _, sr_start sF (reps_cons (by unfold Rep; rfl) rs), hq a ds Pd Ex hsp, fun d Γ1 F1 H1 v R1 s1 rv hp => ?_⟩
  obtain ⟨h0, hp⟩ := hp
  obtain ⟨o, eo, ro⟩ := R1.sl 0 _ h0
  obtain ⟨u, rfl, ru⟩ := ro
  unfold Rep at ru
  subst ru
  refine ⟨.ref a, eo, a, rfl, R1.gr.h _ _ hx, fun dx n1 n2 => ?_⟩
  refine ⟨.ref a, eo, .ref a, eo, a, dx, _, v, rfl, by rw [upd_ne (Ne.symm n2), upd_same], upd_same, by simp [List.lookup], ?_⟩
  refine ⟨a, some dx, v, rfl, by rw [upd_ne (Ne.symm n2), upd_same], ?_⟩
  refine hQ d F1 H1 v dx _ R1.gr rv hp n1 n2 upd_same (by rw [upd_ne n2, upd_same]) fun b q1 q2 => by rw [upd_ne q1, upd_ne q2, upd_ne q1]
end
def cRaiseI (C : Addr) (sp : Sp2) (t : TF2) : TS2 := fun _ Γ E => t Γ (fun ds Γ1 => ds.length ≤ sizeLine ∧ sp ds (fun _ => E Γ1 (.ref C)) fun Cx => E Γ1 Cx) E
theorem hideAll_mem {a : Addr} : ∀ (l : List Addr) {h : Heap}, a ∈ l → (PySem.W.hideAll h l).get? a = none := fun l h m => PySem.W.hideAll_none l m
section
variable {X : Cx} {F0 H0 : Hp} {e : Expr} {es : List Expr} {pos np cpos : Pos} {t : TF2} {x fl : Str} {C f : Addr} {fd : FuncData} {ps : List Str} {k : Nat} {sp : Sp2}
theorem qs_raiseI (hh : X.calm = true) (hg : Gl X x) (hm : X.mg x = some (.ref C)) (hC : ExcI X.K C) (hi : PySem.W.findIn X.K (.ref C) "__init__" = some (some (.ref f))) (hf : PySem.W.isFn X.K (.ref f) = true)
    (Fn : FnOk X.prog X.w X.K X.mg X.base (CX1 X.prog X.w) k f fd ps (spXInit X.K C fl sp)) (hr : Room (k + 1) X.A) (hb : Binds X.K fd ps []) (ha : QA X F0 H0 (e :: es) t)
    (hd : (x == ("__debug__" : Str)) = false := by decide) (he : starEach (e :: es) X.env = (false, eval e X.env) :: starEach es X.env := by rfl) (hpl : (backTo cpos (starEach es X.env)).any (·.1) = false := by rfl) :
    QS X F0 H0 (.Raise (some (.Call (.Name x np) (e :: es) [] cpos)) none pos) (cRaiseI C sp t) := by
  intro z E cx pins s σ H D I ⟨F, Γ, D2, R, h, k'⟩
  refine exc_Raise (K := X.K) (C := C) (f := f) hC.cls (I.ok.hd hh) ?_ hi (beq_iff_eq.mp hf) (ld_glob (X := X.wsh z) I hg hm ⟨rfl, ?_⟩ hd)
  · rw [he]
    show (false || (backTo cpos (starEach es X.env)).any (·.1)) = false
    rw [hpl]; rfl
  · have key := ha z E cx cpos pins s σ H (fun vs H1 => ∃ F1 Γ1 ds, SR X.K F0 H0 F1 H1 σ Γ1 ∧ Reps X.K F1 ds vs ∧ ds.length ≤ sizeLine ∧ sp ds (fun _ => E Γ1 (.ref C)) fun Cx => E Γ1 Cx) I ⟨F, Γ, _, R, h, fun ds Γ1 F1 H1 vs R1 s1 r1 h1 => ⟨F1, Γ1, ds, R1, r1, h1⟩⟩
    rw [he] at key ⊢
    refine Calls.evalArgs_plain (wpAny_mono key (fun us s2 ⟨vs, H1, I1, r, F1, Γ1, ds, R1, rs, hlen, q⟩ => ⟨rfl, by show us.length ≤ sizeLine; rw [← r.length, ← reps_len rs]; exact hlen, I1.kIn, ?_⟩) fun _ _ y => y)
    show wpAny (model X.prog X.w) _ (call (.ref f) (Value.ref (s2.heap.objs.size + 1) :: us)) _ _ _
    have ge : ((s2.heap.push { cls := .type "tuple", data := .seq us.toArray }).push { cls := .ref C, data := .fields #[.ref s2.heap.objs.size, .none, .none, .none, .bool false, .none] }).get? (s2.heap.objs.size + 1) = some ⟨.ref C, none, .fields #[.ref s2.heap.objs.size, .none, .none, .none, .bool false, .none], #[]⟩ := by
      have := Heap.get?_push_size (s2.heap.push { cls := .type "tuple", data := .seq us.toArray }) (o := { cls := .ref C, data := .fields #[.ref s2.heap.objs.size, .none, .none, .none, .bool false, .none] }) rfl
      rw [Heap.size_push] at this
      exact this
    have kp : ∀ b o, s2.heap.get? b = some o → ((s2.heap.push { cls := .type "tuple", data := .seq us.toArray }).push { cls := .ref C, data := .fields #[.ref s2.heap.objs.size, .none, .none, .none, .bool false, .none] }).get? b = some o := fun b o e => Heap.get?_push_of_some _ (Heap.get?_push_of_some _ e)
    generalize hh2 : (s2.heap.push { cls := .type "tuple", data := .seq us.toArray }).push { cls := .ref C, data := .fields #[.ref s2.heap.objs.size, .none, .none, .none, .bool false, .none] } = h2 at ge kp ⊢
    have n1 : H1 (s2.heap.objs.size + 1) = none := I1.hok.fresh (Nat.le_succ _)
    generalize hea : s2.heap.objs.size + 1 = a at ge n1 ⊢
    have hle : s2.heap.objs.size ≤ a := by omega
    have I2 : Inv (X.wsh z) pins σ (upd H1 a (XO a C none)) { s2 with heap := h2, toks := s2.toks } := I1.laid kp hle (xo_ok ge)
    have sH : Same H1 (upd H1 a (XO a C none)) := fun b o e => by rw [upd_ne (ne_of_none e n1)]; exact e
    have f1 : F1 a = none := by
      cases q : F1 a with
      | none => rfl
      | some o => rw [R1.g _ _ q] at n1; cases n1
    have u1 : Un (frs X.stack) [] H1 (upd H1 a (XO a C none)) s2.heap h2 := Un.laid kp hle n1
    have hs : spXInit X.K C fl sp (.ref a :: vs) (upd H1 a (XO a C none)) (fun v H' => v = .non ∧ Same H1 H' ∧ (∃ od, H' a = some (XO a C od)) ∧ E Γ1 (.ref C)) (fun C' dx' H' => E Γ1 C' ∧ dx' = none ∧ Same H1 H') := by
      refine ⟨a, vs, F1, ds, _, _, rfl, upd_same, R1.g.trans sH, f1, rs, q, ?_, fun C' H' hE hS => ⟨hE, rfl, sH.trans hS⟩⟩
      intro d F' H3 v dx H' gr rv hp n3 n4 e1 e2 e3
      refine ⟨rfl, fun b o eb => ?_, ⟨_, e1⟩, hp⟩
      have ba : b ≠ a := ne_of_none eb n1
      have b3 : H3 b = some o := gr.h _ _ (sH _ _ eb)
      rw [e3 b ba (ne_of_none b3 n3)]; exact b3
    have hl : (Value.ref a :: us).length = ps.length := by
      have e := Fn.len _ _ _ _ hs
      rw [List.length_cons, ← r.length, ← List.length_cons (a := V.ref a), e]
    have hbs := hb { s2 with heap := h2 } (Value.ref a :: us) I2.kIn (by rw [List.append_nil]; exact hl)
    rw [List.append_nil] at hbs
    refine wpAny_call (codeAny_mono (Fn.run _ X.stack _ _ ⟨Value.ref a :: us, []⟩ (Value.ref a :: us) _ _ _ (hr.make C us []) (I2.env0.make C us []) hbs (.cons (show RelV (.ref a) (Value.ref a) from rfl) r) hs) fun r' s' hq' => ?_)
    cases r' with
    | error e' => exact cx.px pins σ Γ1 F1 H1 s2 e' s' I1 R1 (cx1_rebase hq' rfl u1 kp)
    | ok fl' =>
      cases fl' with
      | ret u =>
        obtain ⟨v, H', os, bare, un, hok, rv, ev, sS, ⟨od, ea⟩, hE⟩ := hq'
        subst ev
        refine ⟨rv, ?_⟩
        have I3 : Inv (X.wsh z) pins σ H' s' := I2.call' (s' := s') os un hok bare (fun b z => absurd z (by simp))
        obtain ⟨t0, gx⟩ := xo_get hok ea
        refine ⟨_, t0, I3.kIn, gx, rfl, rfl, ?_⟩
        have un3 := u1.trans un
        have nH : ∀ b u, (fun b => if b = a then none else H' b) b = some u → b ≠ a ∧ H' b = some u := fun b u eb => by
          by_cases hb : b = a
          · simp [hb] at eb
          · exact ⟨hb, by simpa [hb] using eb⟩
        have yH : ∀ b u, b ≠ a → H' b = some u → (fun b => if b = a then none else H' b) b = some u := fun b u hb eb => by simp [hb, eb]
        have nfr : ∀ b u, H' b = some u → b ∉ frs X.stack := fun b u eb hm => by
          have := I3.stkFree b hm
          rw [eb] at this; cases this
        refine cx.px pins σ Γ1 F1 H1 s2 (.ref a) s' I1 R1 ⟨a, .ref C, (fun b => if b = a then none else H' b), PySem.W.hideAll s'.heap (a :: frs X.stack), rfl, os, bare, ?_, ?_, ?_, ?_, ?_, hE, rfl, ?_⟩
        · refine ⟨un3.keep, un3.slot, fun b o eb n hx => ?_, un3.there, fun b xs eb => ?_, fun b o u eb => ?_, fun b ps eb => ?_⟩
          · have := un3.free b o eb n hx
            simp [this]
          · exact yH b _ (ne_of_none eb n1) (un3.tups b xs eb)
          · exact yH b _ (ne_of_none eb n1) (un3.frzs b o u eb)
          · obtain ⟨more, q⟩ := un3.tbls b ps eb
            exact ⟨more, yH b _ (ne_of_none eb n1) q⟩
        · intro b u eb
          obtain ⟨hb, eb⟩ := nH b u eb
          refine (hok b u eb).stay (fun _ _ _ q => q) (fun c q => yH c _ (fun hc => ?_) q) fun c xs q => yH c _ (fun hc => ?_) q
          · rw [hc, ea] at q; cases q
          · rw [hc, ea] at q; cases q
        · refine ⟨fun b o q => PySem.W.of_hideAll _ q, hideAll_mem _ List.mem_cons_self, ?_, .inr ⟨_, _, _, gx, rfl, rfl, rfl, rfl⟩⟩
          exact PySem.W.funFrames_hide (as := a :: frs X.stack) I3.stack fun env he b hb => List.mem_cons_of_mem _ (List.mem_filterMap.mpr ⟨env, he, hb⟩)
        · intro b o eb n
          obtain ⟨o', e'⟩ := un3.there b o eb (by simp)
          refine ⟨o', PySem.W.hideAll_get _ e' fun hm => ?_⟩
          rcases List.mem_cons.mp hm with rfl | hm
          · exact absurd (Heap.lt_size eb) (Nat.not_lt.mpr hle)
          · exact n hm
        · intro b u eb
          obtain ⟨hb, eb⟩ := nH b u eb
          obtain ⟨o, eo⟩ := obj_there (hok b u eb)
          refine ⟨o, PySem.W.hideAll_get _ eo fun hm => ?_⟩
          rcases List.mem_cons.mp hm with hm | hm
          · exact hb hm
          · exact nfr b u eb hm
        · exact fun b u eb => yH b u (ne_of_none eb n1) (sS b u eb)
      | next => exact False.elim hq'
      | brk => exact False.elim hq'
      | cont => exact False.elim hq'
structure Xk2 (P : Program) (w : World) (K : PySem.W.Frag) (mg : Str → Option Value) (base : Heap) (x : Str) (C : Addr) (fl : Str) (k : Nat) (ps : List Str) (sp : Sp2) : Prop where
  ex : ∃ f fd, FnOk P w K mg base (CX1 P w) k f fd ps (spXInit K C fl sp) ∧ PySem.W.findIn K (.ref C) "__init__" = some (some (.ref f)) ∧ PySem.W.isFn K (.ref f) = true ∧ ExcI K C ∧ mg x = some (.ref C) ∧ Binds K fd ps []
theorem qs_raiseX (hh : X.calm = true) (G : Xk2 X.prog X.w X.K X.mg X.base x C fl k ps sp) (hr : Room (k + 1) X.A) (hg : Gl X x) (ha : QA X F0 H0 (e :: es) t)
    (hd : (x == ("__debug__" : Str)) = false := by decide) (he : starEach (e :: es) X.env = (false, eval e X.env) :: starEach es X.env := by rfl) (hpl : (backTo cpos (starEach es X.env)).any (·.1) = false := by rfl) :
    QS X F0 H0 (.Raise (some (.Call (.Name x np) (e :: es) [] cpos)) none pos) (cRaiseI C sp t) := by
  obtain ⟨f, fd, h1, h2, h3, h4, h5, h6⟩ := G.ex
  exact qs_raiseI hh hg h5 h4 h2 h3 h1 hr h6 ha hd he hpl
end
end L3

namespace L3
open PySem PySem.Spec PyProof.Rows L2
section
variable {X : Cx} {F0 H0 : Hp} {tg iter elt : Expr} {ifs : List Expr} {pos : Pos} {sc : Scope} {own : List Str} {caps : List Nat} {N' : List Str} {ti : TF2} {g : TG2} {tc : TT2} {te : TE2}
open Classical in
theorem qs_setCL {i : Nat} {y : Str} {py spos : Pos} (hN : X.N.Nodup) (hi' : X.N[i]? = some y) (hy : X.env.scope.names.lookup y = some .local) (S : CpOk X.N sc own caps X.env.scope N') (hc : X.calm = true) (hi : ∀ F0 H0, QIc X F0 H0 tg iter ti)
    (hg : ∀ C s₀ H₀ fp F0 H0, QG (blk X sc N' C s₀ H₀ fp) F0 H0 tg g) (ht : ∀ C s₀ H₀ fp F0 H0, QTs (blk X sc N' C s₀ H₀ fp) F0 H0 ifs tc) (he : ∀ C s₀ H₀ fp F0 H0, QE (blk X sc N' C s₀ H₀ fp) F0 H0 elt te)
    {n : Nat} (hn : own.length = n := by rfl) (hsw : swapsWith (.ListComp elt [⟨tg, iter, ifs, 0⟩] sc pos) (some (.Name y py)) spos.line X.env = pure true := by rfl) (hs : ∀ x, foldedSetIterable iter X.env x = pure x := by intro _; rfl) :
    QS X F0 H0 (.Assign [.Name y py] (.ListComp elt [⟨tg, iter, ifs, 0⟩] sc pos) spos) (cSet i (cLendR (cOfR (fComp n caps ti g tc te)))) := by
  subst hn
  intro z E cx pins s σ H Dn I ⟨F, Γ, D2, R, h, k⟩
  obtain ⟨F1, s1, R1, n1, o1⟩ := sr_peek2 R
  show wpAny _ _ (exec (.Assign [.Name y py] (.ListComp elt [⟨tg, iter, ifs, 0⟩] sc pos) spos) X.env) _ _ _
  rw [exec_Assign_Name_used _ _ _ _ hsw]
  refine wpAny_bind (wpAny_standAt (wpAny_bind ?_))
  show wpAny _ _ (do let _ ← comprehension (.ListComp elt [⟨tg, iter, ifs, 0⟩] sc pos) sc X.env _ (newList []) false (eval iter X.env) (some (assign (.Name y py) X.env))) _ _ s
  refine wpAny_bind (wpAny_mono (comp_core (X := X.wsh z) (use := some (assign (.Name y py) X.env)) (Qv := fun _ s' => SP (X.wsh z) pins Dn .next s') (g := gX X.K g) (tc := tX X.K tc) (te := eX X.K te) (Q := fun v H' => Dn.nx (σ.set i (some v)) H') (CpOk.cs (X := X.wsh z) S) hc (hi F1 H z noX (ctx_peek cx)) ?_ ?_ ?_ rfl hs I ?_ ?_) (fun _ s' hq => wpAny_pure (wpAny_pure hq)) fun _ _ e => e)
  · intro C s₀ H₀ fp pins s σ H v u Q I r ⟨F0', H0', q⟩
    exact hg C s₀ H₀ fp F0' H0' ⟨fun _ _ => False, []⟩ noX ctx_never pins s σ H v u Q I r q
  · intro C s₀ H₀ fp pins s σ H Q I ⟨F0', H0', q⟩
    exact ht C s₀ H₀ fp F0' H0' ⟨fun _ _ => False, []⟩ noX ctx_never pins s σ H Q I q
  · intro C s₀ H₀ fp pins s σ H Q I ⟨F0', H0', q⟩
    exact he C s₀ H₀ fp F0' H0' ⟨fun _ _ => False, []⟩ noX ctx_never pins s σ H Q I q
  · refine ⟨F1, frzG Γ, _, R1, h, fun ds Γ1 F2 H2 J Hx R2 s2 hx hJ h1 acc ha => comp_word R2 hJ hx ha h1 fun ys F' H' vs R' sF a1 a2 a3 rs ap hp => ?_⟩
    have s3 := (frz_gr R'.g a1 a2).1
    have R3 := R'.frzA a1 a2 a3 ap
    have s' := (s2.trans sF).trans s3
    have gr : Gr F H (fun b => if OwnA Γ σ b then none else (L2.upd F' acc (.lst vs)) b) H' := by
      refine ⟨fun b u e => ?_, fun b u e => ?_, R3.gr.h, fun b o e n => ?_⟩
      · show (if OwnA Γ σ b then none else (L2.upd F' acc (.lst vs)) b) = some u
        rw [if_neg (fun hb => by rw [(o1 b hb).1] at e; cases e)]
        exact s' _ _ (s1 _ _ e)
      · have e' : (if OwnA Γ σ b then none else (L2.upd F' acc (.lst vs)) b) = some u := e
        split at e'
        · cases e'
        · exact R3.g _ _ e'
      · have e' : (if OwnA Γ σ b then none else (L2.upd F' acc (.lst vs)) b) = some o := e
        split at e'
        · cases e'
        · rename_i hb
          exact R3.gr.n _ _ e' (n1 b n hb)
    have rep : Rep X.K (lessL F1 (L2.upd F' acc (.lst vs))) (.lst ys) (.ref acc) := by
      unfold Rep
      exact ⟨acc, vs, rfl, seqL_less (R'.gr.f.free a2) (.inl (.inl upd_same)), reps_cut2 (lessL_cut R3.gr.f) ys vs hp.1 (rs.up s3)⟩
    refine k.nx _ _ _ _ ((R.grow gr).set i (rep.up fun b u e => ?_)) gr.f hp.2
    have hb : ¬ OwnA Γ σ b := fun hb => by
      obtain ⟨_, w, ev, ld⟩ := o1 b hb
      exact lessL_of e w ld ev
    show (if OwnA Γ σ b then none else (L2.upd F' acc (.lst vs)) b) = some u
    rw [if_neg hb]
    exact lessL_sub _ _ e
  · intro acc C H' s5 I5 q5 ⟨m, hn⟩ c1 c2 c3 c4 c5 c6
    show wpAny _ _ (assign (.Name y py) X.env (.ref acc)) _ _ _
    refine wpAny_assign_Name (store_ok2 (X := X.wsh z) I5 hN hi' (.inl hy) (v := .ref acc) rfl (fun s6 I6 ⟨a, hsb, ha⟩ => ?_) (.inr hy))
    have ha' : a = X.env.locals ∨ X.env.cells.lookup y = some a := ha
    have hac : C ≠ a := by
      rcases ha' with rfl | ha'
      · exact c2
      · exact fun z => c4 y a ha' z.symm
    refine ⟨m, hn.sameBut hsb hac, fun h' hs' => ⟨_, H', I6.turned (t' := s6.toks) (it := C) (fun b o hb e => (hs'.2 b hb).trans e) c1 c2 (.inr c3) c4 c5, q5⟩⟩
end
end L3

namespace HM
theorem gcd_fmod (a b : Int) : Int.gcd b (a.fmod b) = Int.gcd a b := by
  rw [Int.fmod_def, Int.gcd_sub_mul_left_right, Int.gcd_comm]

theorem fmod_natAbs_lt {a b : Int} (h : b ≠ 0) : (a.fmod b).natAbs < b.natAbs := by
  rw [Int.fmod_eq_emod]
  have h1 := Int.emod_nonneg a h
  have h2 := Int.emod_lt a h
  split
  · omega
  · rename_i q
    have q1 : b < 0 := by omega
    have q2 : a % b ≠ 0 := fun z => q (.inr (Int.dvd_of_emod_eq_zero z))
    omega

def dv (t b : Int) : Int := if b < 0 then -(Int.gcd t b : Int) else Int.gcd t b
def fr (t b : Int) : Int × Int := (t.fdiv (dv t b), b.fdiv (dv t b))

theorem dv_ne {t b : Int} (h : b ≠ 0) : dv t b ≠ 0 := by
  unfold dv
  have : Int.gcd t b ≠ 0 := by
    intro e
    exact h (Int.gcd_eq_zero_iff.mp e).2
  split <;> omega
theorem dv_dvd1 (t b : Int) : dv t b ∣ t := by
  unfold dv
  split
  · exact Int.neg_dvd.mpr (Int.gcd_dvd_left ..)
  · exact Int.gcd_dvd_left ..
theorem dv_dvd2 (t b : Int) : dv t b ∣ b := by
  unfold dv
  split
  · exact Int.neg_dvd.mpr (Int.gcd_dvd_right ..)
  · exact Int.gcd_dvd_right ..
theorem fdiv_mul_of_dvd {a b : Int} (h : b ∣ a) : b * a.fdiv b = a := by
  rw [Int.fdiv_eq_ediv_of_dvd h]
  exact Int.mul_ediv_cancel' h

theorem fr_top (t b : Int) : dv t b * (fr t b).1 = t := fdiv_mul_of_dvd (dv_dvd1 t b)
theorem fr_bot (t b : Int) : dv t b * (fr t b).2 = b := fdiv_mul_of_dvd (dv_dvd2 t b)
theorem fr_pos {t b : Int} (h : b ≠ 0) : 0 < (fr t b).2 := by
  have e := fr_bot t b
  have n := dv_ne (t := t) h
  generalize (fr t b).2 = y at *
  unfold dv at e n
  split at e
  · rename_i hb
    have g0 : (0 : Int) < Int.gcd t b := by
      rw [if_pos hb] at n
      have : (0 : Int) ≤ Int.gcd t b := Int.natCast_nonneg _
      omega
    rcases Int.lt_or_le 0 y with h | h
    · exact h
    · have : 0 ≤ -(Int.gcd t b : Int) * y := by
        rw [Int.neg_mul, ← Int.mul_neg]
        exact Int.mul_nonneg (by omega) (by omega)
      omega
  · rename_i hb
    have g0 : (0 : Int) < Int.gcd t b := by
      rw [if_neg hb] at n
      have : (0 : Int) ≤ Int.gcd t b := Int.natCast_nonneg _
      omega
    rcases Int.lt_or_le 0 y with h | h
    · exact h
    · have : (Int.gcd t b : Int) * y ≤ 0 := Int.mul_nonpos_of_nonneg_of_nonpos (by omega) h
      omega
theorem fr_gcd {t b : Int} (h : b ≠ 0) : Int.gcd (fr t b).1 (fr t b).2 = 1 := by
  have e1 := fr_top t b
  have e2 := fr_bot t b
  have n := dv_ne (t := t) h
  have e3 : Int.gcd (dv t b * (fr t b).1) (dv t b * (fr t b).2) = (dv t b).natAbs * Int.gcd (fr t b).1 (fr t b).2 := Int.gcd_mul_left ..
  rw [e1, e2] at e3
  have e4 : (dv t b).natAbs = Int.gcd t b := by
    unfold dv
    split <;> simp
  rw [e4] at e3
  have g0 : Int.gcd t b ≠ 0 := fun z => h (Int.gcd_eq_zero_iff.mp z).2
  exact (Nat.eq_of_mul_eq_mul_left (Nat.pos_of_ne_zero g0) (by rw [Nat.mul_one]; exact e3)).symm
theorem fr_cross {t b : Int} : (fr t b).1 * b = t * (fr t b).2 := by
  have e1 := fr_top t b
  have e2 := fr_bot t b
  calc (fr t b).1 * b = (fr t b).1 * (dv t b * (fr t b).2) := by rw [e2]
    _ = (dv t b * (fr t b).1) * (fr t b).2 := by rw [← Int.mul_assoc, Int.mul_comm (fr t b).1]
    _ = t * (fr t b).2 := by rw [e1]
theorem low_unique {a b c d : Int} (hb : 0 < b) (hd : 0 < d) (h1 : Int.gcd a b = 1) (h2 : Int.gcd c d = 1) (h : a * d = c * b) : a = c ∧ b = d := by
  have bd : b ∣ d := by
    have : b ∣ a * d := ⟨c, by rw [h, Int.mul_comm]⟩
    have z := Int.dvd_gcd_mul_iff_dvd_mul.mpr this
    rw [Int.gcd_comm, h1] at z
    simpa using z
  have db : d ∣ b := by
    have : d ∣ c * b := ⟨a, by rw [← h, Int.mul_comm]⟩
    have z := Int.dvd_gcd_mul_iff_dvd_mul.mpr this
    rw [Int.gcd_comm, h2] at z
    simpa using z
  have e : b = d := Int.dvd_antisymm (Int.le_of_lt hb) (Int.le_of_lt hd) bd db
  subst e
  exact ⟨Int.eq_of_mul_eq_mul_right (Int.ne_of_gt hb) h, rfl⟩
theorem fr_eq {t b t' b' : Int} (h : b ≠ 0) (h' : b' ≠ 0) (e : t * b' = t' * b) : fr t b = fr t' b' := by
  have c1 := fr_cross (t := t) (b := b)
  have c2 := fr_cross (t := t') (b := b')
  have p1 := fr_pos (t := t) h
  have p2 := fr_pos (t := t') h'
  have k : (fr t b).1 * (fr t' b').2 = (fr t' b').1 * (fr t b).2 := by
    generalize (fr t b).1 = x at *
    generalize (fr t b).2 = y at *
    generalize (fr t' b').1 = x' at *
    generalize (fr t' b').2 = y' at *
    -- x b = t y; x' b' = t' y'; t b' = t' b
    have : (x * y') * (b * b') = (x' * y) * (b * b') := by
      calc (x * y') * (b * b') = (x * b) * (b' * y') := by ac_rfl
        _ = (t * y) * (b' * y') := by rw [c1]
        _ = (t * b') * (y * y') := by ac_rfl
        _ = (t' * b) * (y * y') := by rw [e]
        _ = (t' * y') * (b * y) := by ac_rfl
        _ = (x' * b') * (b * y) := by rw [c2]
        _ = (x' * y) * (b * b') := by ac_rfl
    exact Int.eq_of_mul_eq_mul_right (Int.mul_ne_zero h h') this
  obtain ⟨e1, e2⟩ := low_unique p1 p2 (fr_gcd h) (fr_gcd h') k
  exact Prod.ext e1 e2
theorem fr_low {a b : Int} (hb : 0 < b) (h : Int.gcd a b = 1) : fr a b = (a, b) := by
  have c1 := fr_cross (t := a) (b := b)
  obtain ⟨e1, e2⟩ := low_unique (fr_pos (t := a) (Int.ne_of_gt hb)) hb (fr_gcd (Int.ne_of_gt hb)) h (by rw [c1])
  exact Prod.ext e1 e2
theorem fr_le1 {t b : Int} (h : b ≠ 0) : (fr t b).1.natAbs ≤ t.natAbs := by
  have e := congrArg Int.natAbs (fr_top t b)
  rw [Int.natAbs_mul] at e
  have n := dv_ne (t := t) h
  have : 1 ≤ (dv t b).natAbs := by omega
  calc (fr t b).1.natAbs = 1 * (fr t b).1.natAbs := by rw [Nat.one_mul]
    _ ≤ (dv t b).natAbs * (fr t b).1.natAbs := Nat.mul_le_mul_right _ this
    _ = t.natAbs := e
theorem fr_le2 {t b : Int} (h : b ≠ 0) : (fr t b).2.natAbs ≤ b.natAbs := by
  have e := congrArg Int.natAbs (fr_bot t b)
  rw [Int.natAbs_mul] at e
  have n := dv_ne (t := t) h
  have : 1 ≤ (dv t b).natAbs := by omega
  calc (fr t b).2.natAbs = 1 * (fr t b).2.natAbs := by rw [Nat.one_mul]
    _ ≤ (dv t b).natAbs * (fr t b).2.natAbs := Nat.mul_le_mul_right _ this
    _ = b.natAbs := e
end HM

namespace L3
open PySem L2 HM
def qD (q : Rat) : D := .tup [.int q.num, .int q.den]
theorem rat_div {t b : Int} (h : b ≠ 0) : fr t b = ((Rat.divInt t b).num, ((Rat.divInt t b).den : Int)) := by
  have hb : (0 : Int) < (Rat.divInt t b).den := by have := (Rat.divInt t b).den_pos; omega
  have hg : Int.gcd (Rat.divInt t b).num (Rat.divInt t b).den = 1 := by
    have := (Rat.divInt t b).reduced
    unfold Nat.Coprime at this
    simpa [Int.gcd] using this
  have e : (Rat.divInt t b).num * b = t * (Rat.divInt t b).den := by
    have q := Rat.num_divInt_den (Rat.divInt t b)
    rw [Rat.divInt_eq_divInt_iff (by omega) h] at q
    exact q
  have := fr_eq (t := t) (b := b) (t' := (Rat.divInt t b).num) (b' := (Rat.divInt t b).den) h (by omega) e.symm
  rw [this, fr_low hb hg]
theorem fr_rat {t b : Int} (h : b ≠ 0) : fr t b = (((t : Rat) / (b : Rat)).num, (((t : Rat) / (b : Rat)).den : Int)) := by
  rw [rat_div h, Rat.divInt_eq_div]
theorem den_ne (q : Rat) : ((q.den : Int) : Rat) ≠ 0 := by
  have := q.den_pos
  intro e
  have : (q.den : Int) = 0 := by exact_mod_cast e
  omega
theorem num_den (q : Rat) : (q.num : Rat) / ((q.den : Int) : Rat) = q := by
  have := Rat.num_divInt_den q
  rw [Rat.divInt_eq_div] at this
  exact this
def Sz (n : Nat) (q : Rat) : Prop := bln q.num ≤ n ∧ bln (q.den : Int) ≤ n
theorem Sz.up {m n : Nat} {q : Rat} (h : Sz m q) (k : m ≤ n) : Sz n q := ⟨Nat.le_trans h.1 k, Nat.le_trans h.2 k⟩
theorem sz_div {t b : Int} {n : Nat} (h : b ≠ 0) (h1 : bln t ≤ n) (h2 : bln b ≤ n) : Sz n ((t : Rat) / (b : Rat)) := by
  have e := fr_rat (t := t) h
  have e1 : (fr t b).1 = _ := congrArg Prod.fst e
  have e2 : (fr t b).2 = _ := congrArg Prod.snd e
  dsimp only at e1 e2
  refine ⟨Nat.le_trans (bln_mono ?_) h1, Nat.le_trans (bln_mono ?_) h2⟩
  · rw [← e1]; exact fr_le1 h
  · rw [← e2]; exact fr_le2 h
theorem add_eq (a b : Rat) : a + b = ((a.num * b.den + b.num * a.den : Int) : Rat) / ((a.den * b.den : Int) : Rat) := by
  have ha := den_ne a
  have hb := den_ne b
  have h1 := num_den a
  have h2 := num_den b
  rw [Rat.intCast_add, Rat.intCast_mul, Rat.intCast_mul, Rat.intCast_mul]
  generalize (a.num : Rat) = x at *
  generalize (b.num : Rat) = y at *
  generalize ((a.den : Int) : Rat) = u at *
  generalize ((b.den : Int) : Rat) = v at *
  subst h1 h2
  grind
theorem lt_eq (a b : Rat) : decide (a < b) = decide (a.num * b.den < b.num * a.den) := by
  rw [decide_eq_decide]
  exact Rat.lt_iff a b
theorem den_mul_ne (a b : Rat) : (a.den * b.den : Int) ≠ 0 := Int.mul_ne_zero (by have := a.den_pos; omega) (by have := b.den_pos; omega)
theorem qD_fr {t b : Int} (h : b ≠ 0) : D.tup [.int (fr t b).1, .int (fr t b).2] = qD ((t : Rat) / (b : Rat)) := by rw [fr_rat h]; rfl
theorem sz_add {m n : Nat} {a b : Rat} (ha : Sz m a) (hb : Sz n b) : Sz (m + n + 1) (a + b) := by
  rw [add_eq]
  refine sz_div (den_mul_ne a b) ?_ ?_
  · have h1 := bln_mul_le a.num b.den
    have h2 := bln_mul_le b.num a.den
    have h3 := bln_add_le (a.num * b.den) (b.num * a.den)
    have := ha.1; have := ha.2; have := hb.1; have := hb.2
    omega
  · have h1 := bln_mul_le a.den b.den
    have := ha.2; have := hb.2
    omega
theorem qD_int (i : Int) : qD (i : Rat) = .tup [.int i, .int 1] := rfl
theorem sz_int {i : Int} {n : Nat} (h : bln i ≤ n) (hn : 1 ≤ n) : Sz n (i : Rat) := ⟨h, Nat.le_trans (bln_le (k := 1) (show (1 : Nat) < 2 ^ 1 by decide)) hn⟩
end L3

namespace L3
open PySem L2 HM
def sumQ : List Rat → Rat | [] => 0 | q :: qs => q + sumQ qs
abbrev Srt (l : List Rat) : Prop := l.Pairwise (· ≤ ·)
def cnt (q : Rat) (l : List Rat) : Nat := (l.filter fun o => !decide (q < o)).length
def insQ (l : List Rat) (q : Rat) : List Rat := l.take (cnt q l) ++ q :: l.drop (cnt q l)
def srt (qs : List Rat) : List Rat := qs.foldl insQ []
theorem cnt_of {q : Rat} : ∀ {l : List Rat} {k : Nat}, Srt l → k ≤ l.length → (∀ j (h : j < l.length), j < k → ¬ q < l[j]) → (∀ h : k < l.length, q < l[k]) → cnt q l = k
  | [], k, _, hk, _, _ => by simp at hk; subst hk; rfl
  | x :: l, 0, hs, _, _, h2 => by
    have h := h2 (by simp)
    have all : ∀ o ∈ x :: l, q < o := by
      intro o ho
      rcases List.mem_cons.mp ho with rfl | ho
      · exact h
      · exact Std.lt_of_lt_of_le h ((List.pairwise_cons.mp hs).1 o ho)
    unfold cnt
    rw [List.filter_eq_nil_iff.mpr]
    · rfl
    · intro o ho
      simp [all o ho]
  | x :: l, k + 1, hs, hk, h1, h2 => by
    have hx := h1 0 (by simp) (by omega)
    have ih := cnt_of (q := q) (l := l) (k := k) (List.pairwise_cons.mp hs).2 (by simpa using hk) (fun j hj hjk => by have := h1 (j + 1) (by simpa using hj) (by omega); simpa using this) (fun h => by have := h2 (by simpa using h); simpa using this)
    unfold cnt at ih ⊢
    rw [List.filter_cons, if_pos (by simpa using hx), List.length_cons, ih]
theorem cnt_spec {q : Rat} : ∀ {l : List Rat}, Srt l → (∀ o ∈ l.take (cnt q l), o ≤ q) ∧ ∀ o ∈ l.drop (cnt q l), q < o
  | [], _ => ⟨by simp, by simp⟩
  | x :: l, hs => by
    obtain ⟨p1, p2⟩ := List.pairwise_cons.mp hs
    obtain ⟨i1, i2⟩ := cnt_spec (q := q) (l := l) p2
    by_cases hx : q < x
    · have all : ∀ o ∈ x :: l, q < o := by
        intro o ho
        rcases List.mem_cons.mp ho with rfl | ho
        · exact hx
        · exact Std.lt_of_lt_of_le hx (p1 o ho)
      have e : cnt q (x :: l) = 0 := by
        unfold cnt
        rw [List.filter_eq_nil_iff.mpr]
        · rfl
        · intro o ho
          simp [all o ho]
      rw [e]
      exact ⟨by simp, by simpa using all⟩
    · have e : cnt q (x :: l) = cnt q l + 1 := by
        unfold cnt
        rw [List.filter_cons, if_pos (by simpa using hx), List.length_cons]
      rw [e, List.take_succ_cons, List.drop_succ_cons]
      refine ⟨fun o ho => ?_, i2⟩
      rcases List.mem_cons.mp ho with rfl | ho
      · exact Rat.not_lt.mp hx
      · exact i1 o ho
theorem insQ_srt {l : List Rat} {q : Rat} (h : Srt l) : Srt (insQ l q) := by
  obtain ⟨h1, h2⟩ := cnt_spec (q := q) h
  unfold insQ Srt
  rw [List.pairwise_append]
  refine ⟨h.sublist (List.take_sublist _ _), List.pairwise_cons.mpr ⟨fun o ho => Rat.le_of_lt (h2 o ho), h.sublist (List.drop_sublist _ _)⟩, fun a ha b hb => ?_⟩
  rcases List.mem_cons.mp hb with rfl | hb
  · exact h1 a ha
  · exact Rat.le_trans (h1 a ha) (Rat.le_of_lt (h2 b hb))
theorem insQ_perm (l : List Rat) (q : Rat) : (insQ l q).Perm (q :: l) := by
  unfold insQ
  refine List.perm_middle.trans ?_
  rw [List.take_append_drop]
theorem srt_aux : ∀ (qs acc : List Rat), Srt acc → Srt (qs.foldl insQ acc) ∧ (qs.foldl insQ acc).Perm (qs ++ acc)
  | [], acc, h => ⟨h, .refl _⟩
  | q :: qs, acc, h => by
    obtain ⟨h1, h2⟩ := srt_aux qs (insQ acc q) (insQ_srt h)
    refine ⟨h1, h2.trans ?_⟩
    refine (List.Perm.append_left qs (insQ_perm acc q)).trans ?_
    exact List.perm_middle
theorem srt_srt (qs : List Rat) : Srt (srt qs) := (srt_aux qs [] List.Pairwise.nil).1
theorem srt_perm (qs : List Rat) : (srt qs).Perm qs := by have := (srt_aux qs [] List.Pairwise.nil).2; rwa [List.append_nil] at this
theorem srt_len (qs : List Rat) : (srt qs).length = qs.length := (srt_perm qs).length_eq
theorem srt_unique : ∀ {a b : List Rat}, Srt a → Srt b → a.Perm b → a = b
  | [], b, _, _, h => (List.nil_perm.mp h).symm
  | x :: a, [], _, _, h => by simpa using h.length_eq
  | x :: a, y :: b, ha, hb, h => by
    obtain ⟨a1, a2⟩ := List.pairwise_cons.mp ha
    obtain ⟨b1, b2⟩ := List.pairwise_cons.mp hb
    have e : x = y := by
      have hx : x ∈ y :: b := h.mem_iff.mp List.mem_cons_self
      have hy : y ∈ x :: a := h.mem_iff.mpr List.mem_cons_self
      rcases List.mem_cons.mp hx with e | hx
      · exact e
      · rcases List.mem_cons.mp hy with e | hy
        · exact e.symm
        · exact Rat.le_antisymm (a1 y hy) (b1 x hx)
    subst e
    rw [srt_unique a2 b2 (List.Perm.cons_inv h)]
theorem srt_eq {a b : List Rat} (h : a.Perm b) : srt a = srt b := srt_unique (srt_srt a) (srt_srt b) ((srt_perm a).trans (h.trans (srt_perm b).symm))
def midQ (l : List Rat) : Rat := if l.length % 2 = 1 then l.getD (l.length / 2) 0 else (l.getD (l.length / 2 - 1) 0 + l.getD (l.length / 2) 0) / 2
def wd (l : List Rat) (j : Nat) : Rat := l.getD (j + 1) 0 - l.getD j 0
structure Best (l : List Rat) (b : Nat) : Prop where
  lt : b + 1 < l.length
  le : ∀ j, j + 1 < l.length → wd l b ≤ wd l j
  gt : ∀ j, j + 1 < l.length → b < j → wd l b < wd l j
end L3

namespace HM
abbrev Bd := Int × Int
def wiB (b : Bd) (x : Int) : Bool := decide (b.1 ≤ x) && decide (x ≤ b.2)
def stepS (S l : List Int) (b : Bd) : List Int := S.filter fun e => l.any fun s => wiB b (e - s)
def rk (S : List Int) (bs : List Bd) : Nat → List Int
  | 0 => [0]
  | i + 1 => stepS S (rk S bs i) (bs.getD i (0, 0))
def gk (S : List Int) (n : Int) (rb : List Bd) : Nat → List Int
  | 0 => [n]
  | i + 1 => S.filter fun e => (gk S n rb i).any fun one => wiB (rb.getD i (0, 0)) (one - e)
def backS (S : List Int) (n : Int) : List Int := S.reverse.map (n - ·)
theorem mem_back {S : List Int} {n e : Int} : (n - e) ∈ backS S n ↔ e ∈ S := by
  unfold backS
  rw [List.mem_map]
  constructor
  · rintro ⟨x, hx, h⟩
    obtain rfl : x = e := by omega
    exact List.mem_reverse.mp hx
  · exact fun h => ⟨e, List.mem_reverse.mpr h, rfl⟩
theorem mem_step {S l : List Int} {b : Bd} {e : Int} : e ∈ stepS S l b ↔ e ∈ S ∧ ∃ s ∈ l, wiB b (e - s) = true := by
  unfold stepS; rw [List.mem_filter, List.any_eq_true]
theorem mem_gk {S : List Int} {n e : Int} {rb : List Bd} {i : Nat} : e ∈ gk S n rb (i + 1) ↔ e ∈ S ∧ ∃ one ∈ gk S n rb i, wiB (rb.getD i (0, 0)) (one - e) = true := by
  show e ∈ S.filter _ ↔ _
  rw [List.mem_filter, List.any_eq_true]
theorem rk_back {S : List Int} {n : Int} {rb : List Bd} : ∀ (i : Nat) (e : Int), e ∈ gk S n rb i ↔ (n - e) ∈ rk (backS S n) rb i
  | 0, e => by
    show e ∈ [n] ↔ (n - e) ∈ [0]
    rw [List.mem_singleton, List.mem_singleton]
    omega
  | i + 1, e => by
    rw [mem_gk]
    show _ ↔ (n - e) ∈ stepS (backS S n) (rk (backS S n) rb i) _
    rw [mem_step, mem_back]
    refine and_congr_right fun _ => ⟨fun ⟨o, ho, w⟩ => ⟨n - o, (rk_back i o).mp ho, ?_⟩, fun ⟨s, hs, w⟩ => ⟨n - s, (rk_back i (n - s)).mpr ?_, ?_⟩⟩
    · rw [show n - e - (n - o) = o - e by omega]; exact w
    · rw [show n - (n - s) = s by omega]; exact hs
    · rw [show n - s - e = n - e - s by omega]; exact w
theorem gk_sub {S : List Int} {n : Int} {rb : List Bd} (hn : n ∈ S) : ∀ {i : Nat} {e : Int}, e ∈ gk S n rb i → e ∈ S
  | 0, e, h => by rw [List.mem_singleton.mp h]; exact hn
  | _ + 1, _, h => (mem_gk.mp h).1
theorem rk_sub {S : List Int} {bs : List Bd} (h0 : (0 : Int) ∈ S) : ∀ {i : Nat} {e : Int}, e ∈ rk S bs i → e ∈ S
  | 0, e, h => by rw [List.mem_singleton.mp h]; exact h0
  | _ + 1, _, h => (mem_step.mp h).1
theorem rev_getD {bs : List Bd} {i : Nat} (h : i < bs.length) : bs.reverse.getD (bs.length - (i + 1)) (0, 0) = bs.getD i (0, 0) := by
  rw [List.getD_eq_getElem?_getD, List.getD_eq_getElem?_getD, List.getElem?_reverse (by omega)]
  congr 2
  omega
theorem meet {S : List Int} {n : Int} {bs : List Bd} (h0 : (0 : Int) ∈ S) (hn : n ∈ S) : ∀ i, i ≤ bs.length → ((∃ e ∈ rk S bs i, e ∈ gk S n bs.reverse (bs.length - i)) ↔ (0 : Int) ∈ gk S n bs.reverse bs.length)
  | 0, _ => ⟨fun ⟨e, h1, h2⟩ => by rw [List.mem_singleton.mp h1] at h2; exact h2, fun h => ⟨0, List.mem_singleton.mpr rfl, h⟩⟩
  | i + 1, hi => by
    rw [← meet h0 hn i (by omega)]
    have e1 : bs.length - i = bs.length - (i + 1) + 1 := by omega
    constructor
    · rintro ⟨e, h1, h2⟩
      obtain ⟨_, s, hs, w⟩ := mem_step.mp h1
      refine ⟨s, hs, ?_⟩
      rw [e1, mem_gk]
      exact ⟨rk_sub h0 hs, e, h2, by rw [rev_getD (by omega)]; exact w⟩
    · rintro ⟨e, h1, h2⟩
      rw [e1, mem_gk] at h2
      obtain ⟨_, o, ho, w⟩ := h2
      refine ⟨o, mem_step.mpr ⟨gk_sub hn ho, e, h1, ?_⟩, ho⟩
      rw [rev_getD (by omega)] at w; exact w
theorem barred_iff {S : List Int} {n : Int} {bs : List Bd} (h0 : (0 : Int) ∈ S) (hn : n ∈ S) : n ∈ rk S bs bs.length ↔ (0 : Int) ∈ gk S n bs.reverse bs.length := by
  rw [← meet h0 hn bs.length (Nat.le_refl _)]
  rw [Nat.sub_self]
  exact ⟨fun h => ⟨n, h, List.mem_singleton.mpr rfl⟩, fun ⟨e, h1, h2⟩ => by rw [List.mem_singleton.mp h2] at h1; exact h1⟩
def mxI : List Int → Int
  | [] => 0
  | [x] => x
  | x :: y :: r => if mxI (y :: r) ≤ x then x else mxI (y :: r)
theorem mxI_is : ∀ {l : List Int}, l ≠ [] → mxI l ∈ l ∧ ∀ i ∈ l, i ≤ mxI l
  | [], h => absurd rfl h
  | [x], _ => ⟨List.mem_singleton.mpr rfl, fun i hi => by rw [List.mem_singleton.mp hi]; exact Int.le_refl _⟩
  | x :: y :: r, _ => by
    obtain ⟨h1, h2⟩ := mxI_is (l := y :: r) (by simp)
    unfold mxI
    split
    · rename_i q
      refine ⟨List.mem_cons_self, fun i hi => ?_⟩
      rcases List.mem_cons.mp hi with rfl | hi
      · exact Int.le_refl _
      · exact Int.le_trans (h2 i hi) q
    · rename_i q
      refine ⟨List.mem_cons_of_mem _ h1, fun i hi => ?_⟩
      rcases List.mem_cons.mp hi with rfl | hi
      · omega
      · exact h2 i hi
def cand (S : List Int) (n : Int) (bs : List Bd) (k : Nat) (f : Int) : List Int := S.filter fun e => wiB (bs.getD k (0, 0)) (e - f) && (gk S n bs.reverse (bs.length - (k + 1))).contains e
def fk (S : List Int) (n : Int) (bs : List Bd) : Nat → Int
  | 0 => 0
  | k + 1 => mxI (cand S n bs k (fk S n bs k))
theorem mem_cand {S : List Int} {n : Int} {bs : List Bd} {k : Nat} {f e : Int} : e ∈ cand S n bs k f ↔ e ∈ S ∧ wiB (bs.getD k (0, 0)) (e - f) = true ∧ e ∈ gk S n bs.reverse (bs.length - (k + 1)) := by
  unfold cand; rw [List.mem_filter, Bool.and_eq_true, List.contains_iff_mem]
theorem fk_good {S : List Int} {n : Int} {bs : List Bd} (hn : n ∈ S) (hg : (0 : Int) ∈ gk S n bs.reverse bs.length) : ∀ k, k ≤ bs.length → fk S n bs k ∈ gk S n bs.reverse (bs.length - k) ∧ (k < bs.length → cand S n bs k (fk S n bs k) ≠ [])
  | k, hk => by
    have a : fk S n bs k ∈ gk S n bs.reverse (bs.length - k) := by
      cases k with
      | zero => exact hg
      | succ k =>
        have ih := (fk_good hn hg k (by omega)).2 (by omega)
        exact (mem_cand.mp (mxI_is ih).1).2.2
    refine ⟨a, fun h => ?_⟩
    rw [show bs.length - k = bs.length - (k + 1) + 1 by omega, mem_gk] at a
    obtain ⟨_, o, ho, w⟩ := a
    rw [rev_getD h] at w
    intro e
    have := mem_cand (S := S) (n := n) (bs := bs) (k := k) (f := fk S n bs k) (e := o) |>.mpr ⟨gk_sub hn ho, w, ho⟩
    rw [e] at this
    cases this
theorem fk_max {S : List Int} {n : Int} {bs : List Bd} (hn : n ∈ S) (hg : (0 : Int) ∈ gk S n bs.reverse bs.length) {k : Nat} (hk : k < bs.length) :
    fk S n bs (k + 1) ∈ cand S n bs k (fk S n bs k) ∧ ∀ i ∈ cand S n bs k (fk S n bs k), i ≤ fk S n bs (k + 1) := mxI_is ((fk_good hn hg k (by omega)).2 hk)
theorem fk_end {S : List Int} {n : Int} {bs : List Bd} (hn : n ∈ S) (hg : (0 : Int) ∈ gk S n bs.reverse bs.length) : fk S n bs bs.length = n := by
  have := (fk_good hn hg bs.length (Nat.le_refl _)).1
  rw [Nat.sub_self] at this
  exact List.mem_singleton.mp this
theorem rise_eq : ∀ {a b : List Int}, a.Pairwise (· < ·) → b.Pairwise (· < ·) → (∀ i, i ∈ a ↔ i ∈ b) → a = b
  | [], [], _, _, _ => rfl
  | [], y :: b, _, _, h => absurd ((h y).mpr List.mem_cons_self) (by simp)
  | x :: a, [], _, _, h => absurd ((h x).mp List.mem_cons_self) (by simp)
  | x :: a, y :: b, ha, hb, h => by
    rw [List.pairwise_cons] at ha hb
    have e : x = y := by
      rcases List.mem_cons.mp ((h x).mp List.mem_cons_self) with e | e
      · exact e
      · rcases List.mem_cons.mp ((h y).mpr List.mem_cons_self) with e' | e'
        · exact e'.symm
        · have := hb.1 x e; have := ha.1 y e'; omega
    subst e
    rw [rise_eq ha.2 hb.2 fun i => ?_]
    constructor
    · intro hi
      rcases List.mem_cons.mp ((h i).mp (List.mem_cons_of_mem _ hi)) with rfl | q
      · have := ha.1 i hi; omega
      · exact q
    · intro hi
      rcases List.mem_cons.mp ((h i).mpr (List.mem_cons_of_mem _ hi)) with rfl | q
      · have := hb.1 i hi; omega
      · exact q
end HM

namespace L3
open PySem L2 HM
def sp_divisor (_ : Cls) : Sp2 := fun ds P _ => ∃ i j, ds = [.int i, .int j] ∧ P (.int (Int.gcd i j))
def sp_fraction (c : Cls) : Sp2 := fun ds P E => ∃ i j : Int, ds = [.int i, .int j] ∧ bln i ≤ 9000 ∧ bln j ≤ 9000 ∧ if j = 0 then E (.ref c.NoFraction) else P (qD ((i : Rat) / (j : Rat)))
def sp_plus (c : Cls) : Sp2 := fun ds P _ => ∃ a b : Rat, ds = [qD a, qD b] ∧ Sz 4000 a ∧ Sz 4000 b ∧ P (qD (a + b))
def sp_minus (c : Cls) : Sp2 := fun ds P _ => ∃ a b : Rat, ds = [qD a, qD b] ∧ Sz 4000 a ∧ Sz 4000 b ∧ P (qD (a - b))
def sp_times (c : Cls) : Sp2 := fun ds P _ => ∃ a b : Rat, ds = [qD a, qD b] ∧ Sz 4000 a ∧ Sz 4000 b ∧ P (qD (a * b))
def sp_over (c : Cls) : Sp2 := fun ds P E => ∃ a b : Rat, ds = [qD a, qD b] ∧ Sz 4000 a ∧ Sz 4000 b ∧ if b = 0 then E (.ref c.NoFraction) else P (qD (a / b))
def sp_under (c : Cls) : Sp2 := fun ds P _ => ∃ a b : Rat, ds = [qD a, qD b] ∧ Sz 4000 a ∧ Sz 4000 b ∧ P (.bl (decide (a < b)))

def sp_total (c : Cls) : Sp2 := fun ds P _ => ∃ qs : List Rat, ds = [.lst (qs.map qD)] ∧ (∀ q ∈ qs, Sz 4000 q) ∧ (∀ k, Sz 4000 (sumQ (qs.take k))) ∧ P (qD (sumQ qs))
def sp_mean (c : Cls) : Sp2 := fun ds P E => ∃ qs : List Rat, ds = [.lst (qs.map qD)] ∧ qs.length ≤ 1000 ∧ (∀ q ∈ qs, Sz 4000 q) ∧ (∀ k, Sz 4000 (sumQ (qs.take k))) ∧ if qs = [] then E (.ref c.NoFraction) else P (qD (sumQ qs / (qs.length : Int)))
def sp_rising (c : Cls) : Sp2 := fun ds P _ => ∃ qs : List Rat, ds = [.lst (qs.map qD)] ∧ qs.length ≤ 1000 ∧ (∀ q ∈ qs, Sz 4000 q) ∧ P (.lst ((srt qs).map qD))

def sMean : Str := Str.ofString "mean"
def sMiddle : Str := Str.ofString "middle"
def sPair : Str := Str.ofString "pair"
def mids (l : List Rat) : List Rat := if l.length % 2 = 1 then [l.getD (l.length / 2) 0] else [l.getD (l.length / 2 - 1) 0, l.getD (l.length / 2) 0]
def sp_least_number (_ : Cls) : Sp2 := fun ds P _ => ∃ r : Str, ds = [.str r] ∧ P (.int (if r = sPair then 2 else 1))
def sp_middle (_ : Cls) : Sp2 := fun ds P _ => ∃ l : List Rat, ds = [.lst (l.map qD)] ∧ 1 ≤ l.length ∧ P (.lst ((mids l).map qD))
def sp_width (_ : Cls) : Sp2 := fun ds P _ => ∃ a b : Rat, ds = [.lst [qD a, qD b]] ∧ Sz 1900 a ∧ Sz 1900 b ∧ P (qD (b - a))
def sp_nearest (_ : Cls) : Sp2 := fun ds P _ => ∃ l : List Rat, ds = [.lst (l.map qD)] ∧ 2 ≤ l.length ∧ l.length ≤ 1000 ∧ (∀ q ∈ l, Sz 1900 q) ∧ ∀ b, Best l b → P (.lst [qD (l.getD b 0), qD (l.getD (b + 1) 0)])
def sp_pair (c : Cls) : Sp2 := fun ds P E => ∃ (l : List Rat) (g : Rat), ds = [.lst (l.map qD), qD g] ∧ 2 ≤ l.length ∧ l.length ≤ 1000 ∧ (∀ q ∈ l, Sz 1900 q) ∧ Sz 4000 g ∧
  if l.length = 2 ∧ g < wd l 0 then E (.ref c.Apart) else ∀ b, Best l b → P (.lst [qD (l.getD b 0), qD (l.getD (b + 1) 0)])
def sp_worth (c : Cls) : Sp2 := fun ds P E => ∃ (r : Str) (qs : List Rat) (gap : D) (g : Rat), ds = [.str r, .lst (qs.map qD), gap] ∧ ((gap = .non ∧ g = 0) ∨ gap = qD g) ∧ Sz 4000 g ∧ qs.length ≤ 1000 ∧ (∀ q ∈ qs, Sz 1900 q) ∧
  (r = sMean ∨ r = sMiddle ∨ r = sPair) ∧ (r = sMean → ∀ k, Sz 4000 (sumQ (qs.take k))) ∧
  if qs.length < (if r = sPair then 2 else 1) then E (.ref c.Few)
  else if r = sMean then P (qD (sumQ qs / (qs.length : Int)))
  else if r = sMiddle then P (qD (midQ (srt qs)))
  else if qs.length = 2 ∧ g < wd (srt qs) 0 then E (.ref c.Apart) else ∀ b, Best (srt qs) b → P (qD (((srt qs).getD b 0 + (srt qs).getD (b + 1) 0) / 2))

def cellV (ns : List Int) (k : Nat) : Int := if h : k < ns.length then ns[k] else
  let m : Int := if ns = [] then (k : Int) * 7919 + 5 else (ns.getD ((k * 7) % ns.length) 0 * 48271 + (k : Int) * 7919).fmod 2147483647
  (m * m).fmod 2147483629
def sp_law_cell (_ : Cls) : Sp2 := fun ds P _ => ∃ (ns : List Int) (k : Nat), ds = [.lst (ns.map .int), .int k] ∧ ns.length ≤ 63 ∧ k < 1000 ∧ P (.int (cellV ns k))
def sp_law_is (_ : Cls) : Sp2 := fun ds P _ => ∃ (x : D) (f : Rat), ds = [x, qD f] ∧ (x = .non ∨ ∃ g, x = qD g) ∧ ∀ b : Bool, (b = true ↔ x = qD f) → P (.bl b)
def sp_law (_ : Cls) : Sp2 := sp_law0

def sp_law_stream (_ : Cls) : Sp2 := fun ds P _ => ∃ (i : Int) (m : Nat), ds = [.int i, .int m] ∧ m ≤ 1000 ∧ ∀ xs : List Int, xs.length = m → (∀ x ∈ xs, 0 ≤ x ∧ x < 2147483647) → P (.lst (xs.map .int))
def sp_law_low (_ : Cls) : Sp2 := fun ds P _ => ∃ i j : Int, ds = [.int i, .int j] ∧ bln i ≤ 9000 ∧ bln j ≤ 9000 ∧ 0 < j ∧ P (qD ((i : Rat) / (j : Rat)))
def sp_law_plus (c : Cls) : Sp2 := fun ds P _ => ∃ a b : Rat, ds = [qD a, qD b] ∧ Sz 4000 a ∧ Sz 4000 b ∧ P (qD (a + b))
def sp_law_minus (c : Cls) : Sp2 := fun ds P _ => ∃ a b : Rat, ds = [qD a, qD b] ∧ Sz 4000 a ∧ Sz 4000 b ∧ P (qD (a - b))
def sp_law_less (c : Cls) : Sp2 := fun ds P _ => ∃ a b : Rat, ds = [qD a, qD b] ∧ Sz 4000 a ∧ Sz 4000 b ∧ P (.bl (decide (a < b)))
def sp_law_sorted (c : Cls) : Sp2 := fun ds P _ => ∃ qs : List Rat, ds = [.lst (qs.map qD)] ∧ qs.length ≤ 1000 ∧ (∀ q ∈ qs, Sz 4000 q) ∧ P (.lst ((srt qs).map qD))
def sp_law_fraction (_ : Cls) : Sp2 := fun ds P _ => ∃ i : Int, ds = [.int i] ∧ 0 ≤ i ∧ i < 2147483647 ∧ ∀ q, Sz 60 q → P (qD q)
def sp_law_marks (_ : Cls) : Sp2 := fun ds P _ => ∃ (ns : List Int) (f m : Nat), ds = [.lst (ns.map .int), .int f, .int m] ∧ ns.length ≤ 63 ∧ f < 100 ∧ m ≤ 60 ∧ ∀ qs : List Rat, qs.length = m → (∀ q ∈ qs, Sz (60 + 4 * m) q) → P (.lst (qs.map qD))

def intD (n : Nat) : D := .int (n : Int)
def fal (qs : List Rat) : List Rat := (srt qs).reverse
def endB (f : List Rat) (k : Nat) : Bool := decide (k + 1 = f.length) || decide (f.getD (k + 1) 0 < f.getD k 0)
def endsL (f : List Rat) : List Nat := 0 :: ((List.range f.length).filter (endB f)).map (· + 1)
def Fall (f : List Rat) : Prop := ∀ i j, i ≤ j → j < f.length → f.getD j 0 ≤ f.getD i 0
def sp_law_ends (_ : Cls) : Sp2 := fun ds P _ => ∃ qs : List Rat, ds = [.lst (qs.map qD)] ∧ qs.length ≤ 1000 ∧ (∀ q ∈ qs, Sz 4000 q) ∧ P (.lst ((endsL (fal qs)).map intD))

def ilD (l : List Int) : D := .lst (l.map .int)
def bdD (b : Bd) : D := .tup [.int b.1, .int b.2]
def blD (bs : List Bd) : D := .lst (bs.map bdD)
def cntQ (qs : List Rat) (m : Rat) : Nat := (qs.filter fun x => !decide (x < m)).length
def endsI (qs : List Rat) : List Int := (endsL (fal qs)).map Int.ofNat
def Last (S : List Int) (n : Int) : Prop := atI (S.map D.int) (-1) = some (.int n)
def goodB (qs : List Rat) (bs : List Bd) : Bool := (gk (endsI qs) qs.length bs.reverse bs.length).contains 0
def cutsI (qs : List Rat) (bs : List Bd) : List Int := (List.range bs.length).map fun k => fk (endsI qs) qs.length bs (k + 1)
def toldD (qs : List Rat) (bs : List Bd) : D := if goodB qs bs = true then ilD (cutsI qs bs) else .bl false
def sp_is_within (_ : Cls) : Sp2 := fun ds P _ => ∃ (x : Int) (b : Bd), ds = [.int x, bdD b] ∧ P (.bl (wiB b x))
def sp_reached (_ : Cls) : Sp2 := fun ds P _ => ∃ (S l : List Int) (b : Bd), ds = [ilD S, ilD l, bdD b] ∧ P (ilD (stepS S l b))
def sp_reach (_ : Cls) : Sp2 := fun ds P _ => ∃ (S : List Int) (bs : List Bd), ds = [ilD S, blD bs] ∧ bs.length ≤ 1000 ∧ P (.lst ((List.range (bs.length + 1)).map fun i => ilD (rk S bs i)))
def sp_Barred (_ : Cls) : Sp2 := fun ds P _ => ∃ ls : List (List Int), ds = [.lst (ls.map ilD)] ∧ P (.lst (ls.map ilD))
def sp_number_from (_ : Cls) : Sp2 := fun ds P _ => ∃ (m : Rat) (qs : List Rat), ds = [qD m, .lst (qs.map qD)] ∧ Sz 4000 m ∧ (∀ q ∈ qs, Sz 4000 q) ∧ P (.int (cntQ qs m))
def sp_ends (_ : Cls) : Sp2 := fun ds P _ => ∃ qs : List Rat, ds = [.lst (qs.map qD)] ∧ qs.length ≤ 61 ∧ (∀ q ∈ qs, Sz 4000 q) ∧ P (ilD (endsI qs))
def sp_rests_behind (_ : Cls) : Sp2 := fun ds P _ => ∃ (S : List Int) (n : Int) (bs : List Bd), ds = [ilD S, blD bs] ∧ bs.length ≤ 1000 ∧ Last S n ∧ P (.lst ((List.range bs.length).map fun k => ilD (rk (backS S n) bs.reverse (bs.length - (k + 1)))))
def sp_greatest_cuts (_ : Cls) : Sp2 := fun ds P _ => ∃ (S : List Int) (n : Int) (bs : List Bd), ds = [ilD S, blD bs] ∧ bs.length ≤ 1000 ∧ Last S n ∧ n ∈ S ∧ (0 : Int) ∈ gk S n bs.reverse bs.length ∧ P (ilD ((List.range bs.length).map fun k => fk S n bs (k + 1)))
def sp_cuts (c : Cls) : Sp2 := fun ds P E => ∃ (qs : List Rat) (bs : List Bd), ds = [.lst (qs.map qD), blD bs] ∧ qs.length ≤ 61 ∧ (∀ q ∈ qs, Sz 4000 q) ∧ bs.length ≤ 1000 ∧ (goodB qs bs = true → P (ilD (cutsI qs bs))) ∧ (goodB qs bs = false → E (.ref c.Barred))
def sp_law_told (_ : Cls) : Sp2 := fun ds P _ => ∃ (qs : List Rat) (bs : List Bd), ds = [.lst (qs.map qD), blD bs] ∧ qs.length ≤ 61 ∧ (∀ q ∈ qs, Sz 4000 q) ∧ bs.length ≤ 1000 ∧ P (toldD qs bs)
def sp_law_leading (_ : Cls) : Sp2 := fun ds P _ => ∃ (S : List Int) (n : Int) (bs : List Bd), ds = [ilD S, blD bs] ∧ bs.length ≤ 1000 ∧ Last S n ∧ P (.lst ((List.range (bs.length + 1)).map fun j => ilD (gk S n bs.reverse (bs.length - j))))
def sp_law_greatest (_ : Cls) : Sp2 := fun ds P _ => ∃ (S : List Int) (n : Int) (bs : List Bd), ds = [ilD ((List.range bs.length).map fun k => fk S n bs (k + 1)), ilD S, blD bs, .lst ((List.range (bs.length + 1)).map fun j => ilD (gk S n bs.reverse (bs.length - j)))] ∧ bs.length ≤ 1000 ∧ Last S n ∧ n ∈ S ∧ (0 : Int) ∈ gk S n bs.reverse bs.length ∧ P (.bl true)
def sp_law_wide (_ : Cls) : Sp2 := fun ds P _ => ∃ ns : List Int, ds = [.lst (ns.map .int)] ∧ ns.length ≤ 63 ∧ ∀ qs : List Rat, qs.length ≤ 60 → (∀ q ∈ qs, Sz 400 q) → P (.lst (qs.map qD))
def sp_law_bounds (_ : Cls) : Sp2 := fun ds P _ => ∃ (ns : List Int) (f m : Nat), ds = [.lst (ns.map .int), .int f, .int m] ∧ ns.length ≤ 63 ∧ f < 100 ∧ m ≤ 60 ∧ ∀ bs : List Bd, bs.length ≤ 12 → P (blD bs)

def rd_law_stream_b1_1 (K : PySem.W.Frag) (c : Cls) : TS2 := (cOw 2 w_append (cCons (cV 3) cNil))
def rd_law_stream_b1 (K : PySem.W.Frag) (c : Cls) : TS2 := (cSeq (cSet 3 (cB gMod (cB gAdd (cB gMul (cV 3) (cC (.int 48271))) (cC (.int 12345))) (cC (.int 2147483647))))
 (rd_law_stream_b1_1 K c))
def rd_law_stream_3 (K : PySem.W.Frag) (c : Cls) : TS2 := (cRet (cV 2))
def rd_law_stream_2 (K : PySem.W.Frag) (c : Cls) : TS2 := (cSeq (cRng1 (cCons (cV 1) cNil) (hName 4)
 (rd_law_stream_b1 K c))
 (rd_law_stream_3 K c))
def rd_law_stream_1 (K : PySem.W.Frag) (c : Cls) : TS2 := (cSeq (cSet 3 (cB gMod (cV 0) (cC (.int 2147483647))))
 (rd_law_stream_2 K c))
def rd_law_stream (K : PySem.W.Frag) (c : Cls) : TS2 := (cSeq (cSetF 2 (fLst cNil))
 (rd_law_stream_1 K c))
def rd_law_low_b1 (K : PySem.W.Frag) (c : Cls) : TS2 := (cPar 2 3 (cCons (cV 3) (cCons (cB gMod (cV 2) (cV 3)) cNil)))
def rd_law_low_3 (K : PySem.W.Frag) (c : Cls) : TS2 := (cRet (cTup (cCons (cB gDiv (cV 0) (cV 2)) (cCons (cB gDiv (cV 1) (cV 2)) cNil))))
def rd_law_low_2 (K : PySem.W.Frag) (c : Cls) : TS2 := (cSeq (cWhile (cT (cB gGt (cV 3) (cC (.int 0))))
 (rd_law_low_b1 K c))
 (rd_law_low_3 K c))
def rd_law_low_1 (K : PySem.W.Frag) (c : Cls) : TS2 := (cSeq (cSet 3 (cV 1))
 (rd_law_low_2 K c))
def rd_law_low (K : PySem.W.Frag) (c : Cls) : TS2 := (cSeq (cSet 2 (cCB u_abs (cCons (cV 0) cNil)))
 (rd_law_low_1 K c))
def rd_law_fraction_2 (K : PySem.W.Frag) (c : Cls) : TS2 := (cRet (cCall (sp_law_low c) (cCons (cB gSub (cB gMod (cB gMul (cB gDiv (cV 0) (cC (.int 3))) (cC (.int 48271))) (cB gPow (cC (.int 10)) (cC (.int 14)))) (cB gPow (cC (.int 10)) (cC (.int 13)))) (cCons (cB gAdd (cC (.int 1)) (cB gMod (cB gDiv (cV 0) (cC (.int 3))) (cC (.int 997)))) cNil))))
def rd_law_fraction_1 (K : PySem.W.Frag) (c : Cls) : TS2 := (cSeq (cIfS (cT (cB gEq (cB gMod (cV 0) (cC (.int 3))) (cC (.int 1))))
 (cRet (cCall (sp_law_low c) (cCons (cB gSub (cB gMod (cB gDiv (cV 0) (cC (.int 3))) (cC (.int 23))) (cC (.int 7))) (cCons (cB gAdd (cC (.int 1)) (cB gMod (cB gDiv (cV 0) (cC (.int 69))) (cC (.int 4)))) cNil))))
 cNext)
 (rd_law_fraction_2 K c))
def rd_law_fraction (K : PySem.W.Frag) (c : Cls) : TS2 := (cSeq (cIfS (cT (cB gEq (cB gMod (cV 0) (cC (.int 3))) (cC (.int 0))))
 (cRet (cTup (cCons (cB gMod (cB gDiv (cV 0) (cC (.int 3))) (cC (.int 10))) (cCons (cC (.int 1)) cNil))))
 cNext)
 (rd_law_fraction_1 K c))
def rd_law_cell_3 (K : PySem.W.Frag) (c : Cls) : TS2 := (cRet (cB gMod (cB gMul (cV 2) (cV 2)) (cC (.int 2147483629))))
def rd_law_cell_2 (K : PySem.W.Frag) (c : Cls) : TS2 := (cSeq (cIfS (cT (cB gGt (cCB u_len (cCons (cV 0) cNil)) (cC (.int 0))))
 (cSet 2 (cB gMod (cB gAdd (cB gMul (cB gIx (cV 0) (cB gMod (cB gMul (cV 1) (cC (.int 7))) (cCB u_len (cCons (cV 0) cNil)))) (cC (.int 48271))) (cB gMul (cV 1) (cC (.int 7919)))) (cC (.int 2147483647))))
 cNext)
 (rd_law_cell_3 K c))
def rd_law_cell_1 (K : PySem.W.Frag) (c : Cls) : TS2 := (cSeq (cSet 2 (cB gAdd (cB gMul (cV 1) (cC (.int 7919))) (cC (.int 5))))
 (rd_law_cell_2 K c))
def rd_law_cell (K : PySem.W.Frag) (c : Cls) : TS2 := (cSeq (cIfS (cT (cB gLt (cV 1) (cCB u_len (cCons (cV 0) cNil))))
 (cRet (cB gIx (cV 0) (cV 1)))
 cNext)
 (rd_law_cell_1 K c))
def rd_law_plus (K : PySem.W.Frag) (c : Cls) : TS2 := (cRet (cCall (sp_law_low c) (cCons (cB gAdd (cB gMul (cB gIx (cV 0) (cC (.int 0))) (cB gIx (cV 1) (cC (.int 1)))) (cB gMul (cB gIx (cV 1) (cC (.int 0))) (cB gIx (cV 0) (cC (.int 1))))) (cCons (cB gMul (cB gIx (cV 0) (cC (.int 1))) (cB gIx (cV 1) (cC (.int 1)))) cNil))))
def rd_law_marks_b1_4 (K : PySem.W.Frag) (c : Cls) : TS2 := (cOw 3 w_append (cCons (cV 6) cNil))
def rd_law_marks_b1_3 (K : PySem.W.Frag) (c : Cls) : TS2 := (cSeq (cIfS (cPeekT (cAnd (cT (cB gEq (cB gMod (cB gIx (cV 5) (cC (.int 1))) (cC (.int 4))) (cC (.int 2)))) (cT (cB gNe (cV 3) (cOf (fLst cNil))))))
 (cSet 6 (cCall (sp_law_plus c) (cCons (cIxO 3 (cB gMod (cB gDiv (cB gIx (cV 5) (cC (.int 1))) (cC (.int 4))) (cPeek (cCB u_len (cCons (cV 3) cNil))))) (cCons (cB gIx (cOf (fLst (cCons (cTup (cCons (cC (.int 1)) (cCons (cC (.int 1)) cNil))) (cCons (cTup (cCons (cU gNeg (cC (.int 1))) (cCons (cC (.int 1)) cNil))) (cCons (cTup (cCons (cC (.int 1)) (cCons (cC (.int 2)) cNil))) (cCons (cTup (cCons (cC (.int 2)) (cCons (cC (.int 1)) cNil))) cNil)))))) (cB gMod (cB gDiv (cB gIx (cV 5) (cC (.int 1))) (cC (.int 64))) (cC (.int 4)))) cNil))))
 cNext)
 (rd_law_marks_b1_4 K c))
def rd_law_marks_b1_2 (K : PySem.W.Frag) (c : Cls) : TS2 := (cSeq (cIfS (cPeekT (cAnd (cT (cB gEq (cB gMod (cB gIx (cV 5) (cC (.int 1))) (cC (.int 4))) (cC (.int 1)))) (cT (cB gNe (cV 3) (cOf (fLst cNil))))))
 (cSet 6 (cIxO 3 (cB gMod (cB gDiv (cB gIx (cV 5) (cC (.int 1))) (cC (.int 4))) (cPeek (cCB u_len (cCons (cV 3) cNil))))))
 cNext)
 (rd_law_marks_b1_3 K c))
def rd_law_marks_b1_1 (K : PySem.W.Frag) (c : Cls) : TS2 := (cSeq (cSet 6 (cCall (sp_law_fraction c) (cCons (cB gIx (cV 5) (cC (.int 0))) cNil)))
 (rd_law_marks_b1_2 K c))
def rd_law_marks_b1 (K : PySem.W.Frag) (c : Cls) : TS2 := (cSeq (cSet 5 (cCall (sp_law_stream c) (cCons (cCall (sp_law_cell c) (cCons (cV 0) (cCons (cB gAdd (cV 1) (cV 4)) cNil))) (cCons (cC (.int 2)) cNil))))
 (rd_law_marks_b1_1 K c))
def rd_law_marks_2 (K : PySem.W.Frag) (c : Cls) : TS2 := (cRet (cV 3))
def rd_law_marks_1 (K : PySem.W.Frag) (c : Cls) : TS2 := (cSeq (cRng1 (cCons (cV 2) cNil) (hName 4)
 (rd_law_marks_b1 K c))
 (rd_law_marks_2 K c))
def rd_law_marks (K : PySem.W.Frag) (c : Cls) : TS2 := (cSeq (cSetF 3 (fLst cNil))
 (rd_law_marks_1 K c))
def rd_law_bounds_b1_7 (K : PySem.W.Frag) (c : Cls) : TS2 := (cOw 3 w_append (cCons (cTup (cCons (cV 10) (cCons (cV 11) cNil))) cNil))
def rd_law_bounds_b1_6 (K : PySem.W.Frag) (c : Cls) : TS2 := (cSeq (cIfS (cT (cB gEq (cB gMod (cB gIx (cV 8) (cC (.int 3))) (cC (.int 8))) (cC (.int 2))))
 (cSet 11 (cB gAdd (cV 11) (cB gMod (cV 5) (cB gPow (cC (.int 10)) (cC (.int 59))))))
 cNext)
 (rd_law_bounds_b1_7 K c))
def rd_law_bounds_b1_5 (K : PySem.W.Frag) (c : Cls) : TS2 := (cSeq (cSet 11 (cB gAdd (cB gAdd (cV 9) (cB gMod (cB gIx (cV 8) (cC (.int 2))) (cC (.int 3)))) (cB gMul (cCB u_int (cCons (cB gEq (cB gMod (cB gIx (cV 8) (cC (.int 3))) (cC (.int 8))) (cC (.int 1))) cNil)) (cC (.int 5)))))
 (rd_law_bounds_b1_6 K c))
def rd_law_bounds_b1_4 (K : PySem.W.Frag) (c : Cls) : TS2 := (cSeq (cSet 10 (cCB u_max (cCons (cC (.int 0)) (cCons (cB gSub (cV 9) (cB gMod (cB gIx (cV 8) (cC (.int 1))) (cC (.int 3)))) cNil))))
 (rd_law_bounds_b1_5 K c))
def rd_law_bounds_b1_3 (K : PySem.W.Frag) (c : Cls) : TS2 := (cSeq (cSet 4 (cB gSub (cV 4) (cV 9)))
 (rd_law_bounds_b1_4 K c))
def rd_law_bounds_b1_2 (K : PySem.W.Frag) (c : Cls) : TS2 := (cSeq (cIfS (cT (cB gEq (cV 7) (cB gSub (cV 6) (cC (.int 1)))))
 (cSet 9 (cV 4))
 cNext)
 (rd_law_bounds_b1_3 K c))
def rd_law_bounds_b1_1 (K : PySem.W.Frag) (c : Cls) : TS2 := (cSeq (cSet 9 (cB gMod (cB gIx (cV 8) (cC (.int 0))) (cB gAdd (cV 4) (cC (.int 1)))))
 (rd_law_bounds_b1_2 K c))
def rd_law_bounds_b1 (K : PySem.W.Frag) (c : Cls) : TS2 := (cSeq (cSet 8 (cCall (sp_law_stream c) (cCons (cB gAdd (cCall (sp_law_cell c) (cCons (cV 0) (cCons (cB gAdd (cB gAdd (cV 1) (cC (.int 1))) (cB gMod (cV 7) (cC (.int 5)))) cNil))) (cB gMul (cC (.int 1009)) (cB gDiv (cV 7) (cC (.int 5))))) (cCons (cC (.int 4)) cNil))))
 (rd_law_bounds_b1_1 K c))
def rd_law_bounds_5 (K : PySem.W.Frag) (c : Cls) : TS2 := (cRet (cV 3))
def rd_law_bounds_4 (K : PySem.W.Frag) (c : Cls) : TS2 := (cSeq (cRng1 (cCons (cV 6) cNil) (hName 7)
 (rd_law_bounds_b1 K c))
 (rd_law_bounds_5 K c))
def rd_law_bounds_3 (K : PySem.W.Frag) (c : Cls) : TS2 := (cSeq (cSet 6 (cB gAdd (cC (.int 1)) (cB gMod (cV 5) (cB gIx (cOf (fLst (cCons (cC (.int 5)) (cCons (cC (.int 12)) cNil)))) (cCB u_int (cCons (cB gEq (cB gMod (cB gDiv (cV 5) (cC (.int 60))) (cC (.int 3))) (cC (.int 1))) cNil))))))
 (rd_law_bounds_4 K c))
def rd_law_bounds_2 (K : PySem.W.Frag) (c : Cls) : TS2 := (cSeq (cSet 5 (cCall (sp_law_cell c) (cCons (cV 0) (cCons (cV 1) cNil))))
 (rd_law_bounds_3 K c))
def rd_law_bounds_1 (K : PySem.W.Frag) (c : Cls) : TS2 := (cSeq (cSet 4 (cV 2))
 (rd_law_bounds_2 K c))
def rd_law_bounds (K : PySem.W.Frag) (c : Cls) : TS2 := (cSeq (cSetF 3 (fLst cNil))
 (rd_law_bounds_1 K c))
def rd_is_within (K : PySem.W.Frag) (c : Cls) : TS2 := (cRet (cChain gLe gLe (cB gIx (cV 1) (cC (.int 0))) (cV 0) (cB gIx (cV 1) (cC (.int 1)))))
def rd_reached (K : PySem.W.Frag) (c : Cls) : TS2 := (cRet (cOf (fComp 1 [1, 2] (iL (cV 0)) (hName 0) (cT (cCB u_any (cCons (cOf (fComp 1 [0, 2] (iL (cV 1)) (hName 0) cYes (cCall (sp_is_within c) (cCons (cB gSub (cV 1) (cV 0)) (cCons (cV 2) cNil))))) cNil))) (cV 0))))
def rd_reach_b1 (K : PySem.W.Frag) (c : Cls) : TS2 := (cOw 2 w_append (cCons (cCall (sp_reached c) (cCons (cV 0) (cCons (cIxO 2 (cU gNeg (cC (.int 1)))) (cCons (cV 3) cNil)))) cNil))
def rd_reach_2 (K : PySem.W.Frag) (c : Cls) : TS2 := (cRet (cV 2))
def rd_reach_1 (K : PySem.W.Frag) (c : Cls) : TS2 := (cSeq (cFor (cV 1) (hName 3)
 (rd_reach_b1 K c))
 (rd_reach_2 K c))
def rd_reach (K : PySem.W.Frag) (c : Cls) : TS2 := (cSeq (cSetF 2 (fLst (cCons (cOf (fLst (cCons (cC (.int 0)) cNil))) cNil)))
 (rd_reach_1 K c))
def rd_Barred___init__ (K : PySem.W.Frag) (c : Cls) : TE2 := (cOf (fComp 1 [] (iL (cV 1)) (hName 0) cYes (cOf (fCB n_list (cCons (cV 0) cNil)))))
def rd_under (K : PySem.W.Frag) (c : Cls) : TS2 := (cRet (cB gLt (cB gMul (cB gIx (cV 0) (cC (.int 0))) (cB gIx (cV 1) (cC (.int 1)))) (cB gMul (cB gIx (cV 1) (cC (.int 0))) (cB gIx (cV 0) (cC (.int 1))))))
def rd_number_from (K : PySem.W.Frag) (c : Cls) : TS2 := (cRet (cCB u_len (cCons (cOf (fComp 1 [0] (iL (cV 1)) (hName 0) (cNot (cT (cCall (sp_under c) (cCons (cV 0) (cCons (cV 1) cNil))))) (cV 0))) cNil)))
def rd_ends (K : PySem.W.Frag) (c : Cls) : TS2 := (cRet (cOf (fCB n_sset (cCons (cOf (fCat (cOf (fLst (cCons (cC (.int 0)) cNil))) (cOf (fComp 1 [0] (iL (cV 0)) (hName 0) cYes (cCall (sp_number_from c) (cCons (cV 0) (cCons (cV 1) cNil))))))) cNil))))
def rd_rests_behind_2 (K : PySem.W.Frag) (c : Cls) : TS2 := (cRet (cOf (fSl (cOf (fCB n_rev (cCons (cV 3) cNil))) (oIs (cC (.int 1))) oNo)))
def rd_rests_behind_1 (K : PySem.W.Frag) (c : Cls) : TS2 := (cSeq (cSet 3 (cCall (sp_reach c) (cCons (cV 2) (cCons (cOf (fCB n_rev (cCons (cV 1) cNil))) cNil))))
 (rd_rests_behind_2 K c))
def rd_rests_behind (K : PySem.W.Frag) (c : Cls) : TS2 := (cSeq (cSet 2 (cOf (fComp 1 [0] (i_reversed (cCons (cV 0) cNil)) (hName 0) cYes (cB gSub (cB gIx (cV 1) (cU gNeg (cC (.int 1)))) (cV 0)))))
 (rd_rests_behind_1 K c))
def rd_greatest_cuts_b1_1 (K : PySem.W.Frag) (c : Cls) : TS2 := (cOw 2 w_append (cCons (cCB u_maxL (cCons (cOf (fComp 1 [0, 4] (iL (cV 5)) (hName 0) (cT (cB (gIn false) (cB gSub (cB gIx (cV 1) (cU gNeg (cC (.int 1)))) (cV 0)) (cV 2))) (cV 0))) cNil)) cNil))
def rd_greatest_cuts_b1 (K : PySem.W.Frag) (c : Cls) : TS2 := (cSeq (cSet 5 (cLendR (cOfR (fComp 1 [2, 3] (iL (cV 0)) (hName 0) (cT (cCall (sp_is_within c) (cCons (cB gSub (cV 0) (cB gIx (cV 1) (cU gNeg (cC (.int 1))))) (cCons (cV 2) cNil)))) (cV 0)))))
 (rd_greatest_cuts_b1_1 K c))
def rd_greatest_cuts_2 (K : PySem.W.Frag) (c : Cls) : TS2 := (cRet (cOf (fSl (cV 2) (oIs (cC (.int 1))) oNo)))
def rd_greatest_cuts_1 (K : PySem.W.Frag) (c : Cls) : TS2 := (cSeq (cForI (i_zip (cCons (cV 1) (cCons (cCall (sp_rests_behind c) (cCons (cV 0) (cCons (cV 1) cNil))) cNil))) (hTup 2 (hCons (hName 3) (hCons (hName 4) hNil)))
 (rd_greatest_cuts_b1 K c))
 (rd_greatest_cuts_2 K c))
def rd_greatest_cuts (K : PySem.W.Frag) (c : Cls) : TS2 := (cSeq (cSetF 2 (fLst (cCons (cC (.int 0)) cNil)))
 (rd_greatest_cuts_1 K c))
def rd_cuts_3 (K : PySem.W.Frag) (c : Cls) : TS2 := (cRet (cCall (sp_greatest_cuts c) (cCons (cV 2) (cCons (cV 1) cNil))))
def rd_cuts_2 (K : PySem.W.Frag) (c : Cls) : TS2 := (cSeq (cIfS (cT (cB (gIn true) (cCB u_len (cCons (cV 0) cNil)) (cB gIx (cV 3) (cU gNeg (cC (.int 1))))))
 (cRaiseI c.Barred (sp_Barred c) (cCons (cV 3) cNil))
 cNext)
 (rd_cuts_3 K c))
def rd_cuts_1 (K : PySem.W.Frag) (c : Cls) : TS2 := (cSeq (cSet 3 (cCall (sp_reach c) (cCons (cV 2) (cCons (cV 1) cNil))))
 (rd_cuts_2 K c))
def rd_cuts (K : PySem.W.Frag) (c : Cls) : TS2 := (cSeq (cSet 2 (cCall (sp_ends c) (cCons (cV 0) cNil)))
 (rd_cuts_1 K c))
def rd_law_told_2 (K : PySem.W.Frag) (c : Cls) : TS2 := (cRet (cV 2))
def rd_law_told_1 (K : PySem.W.Frag) (c : Cls) : TS2 := (cSeq (cTryA K c.HallError 3 (cSet 2 (cCall (sp_cuts c) (cCons (cV 0) (cCons (cV 1) cNil))))
 (cIfS (cAnd (cT (cIsx K c.Barred (cV 3))) (cAnd (cT (cIsv K (cV 3))) (cNot (cT (cIst K [c.NoScale, c.Open] (cV 3))))))
 (cSet 2 (cC (.bl false)))
 cNext))
 (rd_law_told_2 K c))
def rd_law_told (K : PySem.W.Frag) (c : Cls) : TS2 := (cSeq (cSet 2 (cC .non))
 (rd_law_told_1 K c))
def rd_law_less (K : PySem.W.Frag) (c : Cls) : TS2 := (cRet (cB gLt (cB gMul (cB gIx (cV 0) (cC (.int 0))) (cB gIx (cV 1) (cC (.int 1)))) (cB gMul (cB gIx (cV 1) (cC (.int 0))) (cB gIx (cV 0) (cC (.int 1))))))
def rd_law_sorted_b2 (K : PySem.W.Frag) (c : Cls) : TS2 := (cSet 3 (cB gAdd (cV 3) (cC (.int 1))))
def rd_law_sorted_b1_2 (K : PySem.W.Frag) (c : Cls) : TS2 := (cOw 1 w_insert (cCons (cV 3) (cCons (cV 2) cNil)))
def rd_law_sorted_b1_1 (K : PySem.W.Frag) (c : Cls) : TS2 := (cSeq (cWhile (cPeekT (cAnd (cT (cB gLt (cV 3) (cCB u_len (cCons (cV 1) cNil)))) (cNot (cT (cCall (sp_law_less c) (cCons (cV 2) (cCons (cB gIx (cV 1) (cV 3)) cNil)))))))
 (rd_law_sorted_b2 K c))
 (rd_law_sorted_b1_2 K c))
def rd_law_sorted_b1 (K : PySem.W.Frag) (c : Cls) : TS2 := (cSeq (cSet 3 (cC (.int 0)))
 (rd_law_sorted_b1_1 K c))
def rd_law_sorted_2 (K : PySem.W.Frag) (c : Cls) : TS2 := (cRet (cV 1))
def rd_law_sorted_1 (K : PySem.W.Frag) (c : Cls) : TS2 := (cSeq (cFor (cV 0) (hName 2)
 (rd_law_sorted_b1 K c))
 (rd_law_sorted_2 K c))
def rd_law_sorted (K : PySem.W.Frag) (c : Cls) : TS2 := (cSeq (cSetF 1 (fLst cNil))
 (rd_law_sorted_1 K c))
def rd_law_ends_b1 (K : PySem.W.Frag) (c : Cls) : TS2 := (cIfS (cOr (cT (cB gEq (cB gAdd (cV 3) (cC (.int 1))) (cCB u_len (cCons (cV 1) cNil)))) (cT (cCall (sp_law_less c) (cCons (cB gIx (cV 1) (cB gAdd (cV 3) (cC (.int 1)))) (cCons (cB gIx (cV 1) (cV 3)) cNil)))))
 (cOw 2 w_append (cCons (cB gAdd (cV 3) (cC (.int 1))) cNil))
 cNext)
def rd_law_ends_3 (K : PySem.W.Frag) (c : Cls) : TS2 := (cRet (cV 2))
def rd_law_ends_2 (K : PySem.W.Frag) (c : Cls) : TS2 := (cSeq (cRng1 (cCons (cCB u_len (cCons (cV 1) cNil)) cNil) (hName 3)
 (rd_law_ends_b1 K c))
 (rd_law_ends_3 K c))
def rd_law_ends_1 (K : PySem.W.Frag) (c : Cls) : TS2 := (cSeq (cSetF 2 (fLst (cCons (cC (.int 0)) cNil)))
 (rd_law_ends_2 K c))
def rd_law_ends (K : PySem.W.Frag) (c : Cls) : TS2 := (cSeq (cSet 1 (cOf (fRev (cCall (sp_law_sorted c) (cCons (cV 0) cNil)))))
 (rd_law_ends_1 K c))
def rd_law_leading_b1_1 (K : PySem.W.Frag) (c : Cls) : TS2 := (cOw 2 w_append (cCons (cOf (fComp 1 [3, 4, 5] (iL (cV 0)) (hName 0) (cT (cB gNe (cOf (fComp 1 [0, 1, 2] (iL (cV 3)) (hName 0) (cT (cChain gLe gLe (cV 2) (cB gSub (cV 0) (cV 1)) (cV 3))) (cV 0))) (cOf (fLst cNil)))) (cV 0))) cNil))
def rd_law_leading_b1 (K : PySem.W.Frag) (c : Cls) : TS2 := (cSeq (cSet 5 (cIxO 2 (cU gNeg (cC (.int 1)))))
 (rd_law_leading_b1_1 K c))
def rd_law_leading_2 (K : PySem.W.Frag) (c : Cls) : TS2 := (cRet (cOf (fRev (cV 2))))
def rd_law_leading_1 (K : PySem.W.Frag) (c : Cls) : TS2 := (cSeq (cFor (cOf (fRev (cV 1))) (hTup 2 (hCons (hName 3) (hCons (hName 4) hNil)))
 (rd_law_leading_b1 K c))
 (rd_law_leading_2 K c))
def rd_law_leading (K : PySem.W.Frag) (c : Cls) : TS2 := (cSeq (cSetF 2 (fLst (cCons (cOf (fLst (cCons (cB gIx (cV 0) (cU gNeg (cC (.int 1)))) cNil))) cNil)))
 (rd_law_leading_1 K c))
def rd_law_wide_b1_2 (K : PySem.W.Frag) (c : Cls) : TS2 := (cOw 4 w_append (cCons (cB gIx (cV 2) (cB gMod (cV 6) (cCB u_len (cCons (cV 2) cNil)))) cNil))
def rd_law_wide_b1_1 (K : PySem.W.Frag) (c : Cls) : TS2 := (cSeq (cIfS (cT (cB gEq (cB gMod (cV 1) (cC (.int 2))) (cC (.int 0))))
 (cSeq (cSet 3 (cB gMod (cB gAdd (cB gMul (cV 3) (cC (.int 48271))) (cC (.int 12345))) (cC (.int 2147483647))))
 (cSet 6 (cB gMod (cB gMul (cV 3) (cC (.int 69621))) (cC (.int 2147483629)))))
 (cSet 3 (cB gDiv (cV 3) (cC (.int 7)))))
 (rd_law_wide_b1_2 K c))
def rd_law_wide_b1 (K : PySem.W.Frag) (c : Cls) : TS2 := (cSeq (cSet 6 (cB gMod (cV 3) (cC (.int 7))))
 (rd_law_wide_b1_1 K c))
def rd_law_wide_5 (K : PySem.W.Frag) (c : Cls) : TS2 := (cRet (cV 4))
def rd_law_wide_4 (K : PySem.W.Frag) (c : Cls) : TS2 := (cSeq (cRng1 (cCons (cB gAdd (cC (.int 17)) (cB gMod (cB gDiv (cV 1) (cC (.int 14))) (cC (.int 44)))) cNil) (hName 5)
 (rd_law_wide_b1 K c))
 (rd_law_wide_5 K c))
def rd_law_wide_3 (K : PySem.W.Frag) (c : Cls) : TS2 := (cSeq (cSetF 4 (fLst cNil))
 (rd_law_wide_4 K c))
def rd_law_wide_2 (K : PySem.W.Frag) (c : Cls) : TS2 := (cSeq (cSet 3 (cB gDiv (cV 1) (cC (.int 616))))
 (rd_law_wide_3 K c))
def rd_law_wide_1 (K : PySem.W.Frag) (c : Cls) : TS2 := (cSeq (cSet 2 (cCall (sp_law_marks c) (cCons (cV 0) (cCons (cC (.int 8)) (cCons (cB gAdd (cC (.int 1)) (cB gMod (cB gDiv (cV 1) (cC (.int 2))) (cC (.int 7)))) cNil)))))
 (rd_law_wide_2 K c))
def rd_law_wide (K : PySem.W.Frag) (c : Cls) : TS2 := (cSeq (cSet 1 (cCall (sp_law_cell c) (cCons (cV 0) (cCons (cC (.int 7)) cNil))))
 (rd_law_wide_1 K c))
def rd_law_greatest_b1_3 (K : PySem.W.Frag) (c : Cls) : TS2 := (cSet 4 (cB gIx (cV 0) (cV 5)))
def rd_law_greatest_b1_2 (K : PySem.W.Frag) (c : Cls) : TS2 := (cSeq (cIfS (cOr (cT (cIsi "bool" (cB gIx (cV 0) (cV 5)))) (cOr (cNot (cT (cIsi "int" (cB gIx (cV 0) (cV 5))))) (cOr (cT (cB gEq (cV 8) (cOf (fLst cNil)))) (cT (cB gNe (cB gIx (cV 0) (cV 5)) (cCB u_maxL (cCons (cV 8) cNil)))))))
 (cRet (cC (.bl false)))
 cNext)
 (rd_law_greatest_b1_3 K c))
def rd_law_greatest_b1_1 (K : PySem.W.Frag) (c : Cls) : TS2 := (cSeq (cSet 8 (cOf (fComp 1 [4, 6, 7] (iL (cB gIx (cV 3) (cB gAdd (cV 5) (cC (.int 1))))) (hName 0) (cT (cChain gLe gLe (cV 2) (cB gSub (cV 0) (cV 1)) (cV 3))) (cV 0))))
 (rd_law_greatest_b1_2 K c))
def rd_law_greatest_b1 (K : PySem.W.Frag) (c : Cls) : TS2 := (cSeq (cAsg (cB gIx (cV 2) (cV 5)) (hTup 2 (hCons (hName 6) (hCons (hName 7) hNil))))
 (rd_law_greatest_b1_1 K c))
def rd_law_greatest_2 (K : PySem.W.Frag) (c : Cls) : TS2 := (cRet (cB gEq (cV 4) (cB gIx (cV 1) (cU gNeg (cC (.int 1))))))
def rd_law_greatest_1 (K : PySem.W.Frag) (c : Cls) : TS2 := (cSeq (cRng1 (cCons (cCB u_len (cCons (cV 2) cNil)) cNil) (hName 5)
 (rd_law_greatest_b1 K c))
 (rd_law_greatest_2 K c))
def rd_law_greatest (K : PySem.W.Frag) (c : Cls) : TS2 := (cSeq (cSet 4 (cC (.int 0)))
 (rd_law_greatest_1 K c))
def rd_law_12 (K : PySem.W.Frag) (c : Cls) : TS2 := (cRet (cB gEq (cCall (sp_law_told c) (cCons (cOf (fRev (cV 3))) (cCons (cV 4) cNil))) (cV 6)))
def rd_law_11 (K : PySem.W.Frag) (c : Cls) : TS2 := (cSeq (cIfS (cOr (cNot (cT (cIsi "list" (cV 6)))) (cOr (cT (cB gNe (cCB u_len (cCons (cV 6) cNil)) (cCB u_len (cCons (cV 4) cNil)))) (cNot (cT (cCall (sp_law_greatest c) (cCons (cV 6) (cCons (cV 7) (cCons (cV 4) (cCons (cV 8) cNil)))))))))
 (cRet (cC (.bl false)))
 cNext)
 (rd_law_12 K c))
def rd_law_10 (K : PySem.W.Frag) (c : Cls) : TS2 := (cSeq (cIfS (cT (cB (gIn true) (cC (.int 0)) (cB gIx (cV 8) (cC (.int 0)))))
 (cRet (cB gIs (cV 6) (cC (.bl false))))
 cNext)
 (rd_law_11 K c))
def rd_law_9 (K : PySem.W.Frag) (c : Cls) : TS2 := (cSeq (cIfS (cOr (cT (cB gNe (cV 5) (cOf (fLst (cCons (cV 3) (cCons (cV 4) cNil)))))) (cT (cB gIs (cV 6) (cC .non))))
 (cRet (cC (.bl false)))
 cNext)
 (rd_law_10 K c))
def rd_law_8 (K : PySem.W.Frag) (c : Cls) : TS2 := (cSeq (cSet 8 (cCall (sp_law_leading c) (cCons (cV 7) (cCons (cV 4) cNil))))
 (rd_law_9 K c))
def rd_law_7 (K : PySem.W.Frag) (c : Cls) : TS2 := (cSeq (cSet 7 (cCall (sp_law_ends c) (cCons (cV 3) cNil)))
 (rd_law_8 K c))
def rd_law_6 (K : PySem.W.Frag) (c : Cls) : TS2 := (cSeq (cSet 6 (cCall (sp_law_told c) (cCons (cB gIx (cV 5) (cC (.int 0))) (cCons (cB gIx (cV 5) (cC (.int 1))) cNil))))
 (rd_law_7 K c))
def rd_law_5 (K : PySem.W.Frag) (c : Cls) : TS2 := (cSeq (cSet 5 (cOf (fLst (cCons (cOf (fCB n_list (cCons (cV 3) cNil))) (cCons (cOf (fCB n_list (cCons (cV 4) cNil))) cNil)))))
 (rd_law_6 K c))
def rd_law_4 (K : PySem.W.Frag) (c : Cls) : TS2 := (cSeq (cSet 4 (cCall (sp_law_bounds c) (cCons (cV 0) (cCons (cC (.int 1)) (cCons (cCB u_len (cCons (cV 3) cNil)) cNil)))))
 (rd_law_5 K c))
def rd_law_3 (K : PySem.W.Frag) (c : Cls) : TS2 := (cSeq (cIfS (cT (cB gEq (cB gMod (cB gIx (cV 1) (cC (.int 2))) (cC (.int 4))) (cC (.int 1))))
 (cSet 3 (cCall (sp_law_wide c) (cCons (cV 0) cNil)))
 cNext)
 (rd_law_4 K c))
def rd_law_2 (K : PySem.W.Frag) (c : Cls) : TS2 := (cSeq (cSet 3 (cCall (sp_law_marks c) (cCons (cV 0) (cCons (cC (.int 8)) (cCons (cV 2) cNil)))))
 (rd_law_3 K c))
def rd_law_1 (K : PySem.W.Frag) (c : Cls) : TS2 := (cSeq (cSet 2 (cB gMul (cCB u_min (cCons (cC (.int 16)) (cCons (cCB u_max (cCons (cB gSub (cCB u_len (cCons (cV 0) cNil)) (cC (.int 8))) (cCons (cB gMod (cB gIx (cV 1) (cC (.int 0))) (cC (.int 12))) cNil))) cNil))) (cCB u_int (cCons (cB gNe (cB gMod (cB gIx (cV 1) (cC (.int 1))) (cC (.int 9))) (cC (.int 1))) cNil))))
 (rd_law_2 K c))
def rd_law (K : PySem.W.Frag) (c : Cls) : TS2 := (cSeq (cSet 1 (cCall (sp_law_stream c) (cCons (cCall (sp_law_cell c) (cCons (cV 0) (cCons (cC (.int 0)) cNil))) (cCons (cC (.int 3)) cNil))))
 (rd_law_1 K c))

theorem l_under {c : Cls} {ds P E} (h : sp_under c ds P E) : ds.length = 2 := by obtain ⟨_, _, rfl, _⟩ := h; rfl
theorem bln9 {j : Int} (h : j.natAbs < 2 ^ 64) : bln j ≤ 9000 := Nat.le_trans (bln_le h) (by decide)
abbrev fin (Q : D → Prop) : End2 := { nx := fun _ => Q .non, rt := Q }
theorem fr_bounds {i j : Int} (hj : j ≠ 0) : dv i j ≠ 0 ∧ ∀ n, bln i ≤ n → bln j ≤ n → bln (dv i j) ≤ n := by
  refine ⟨dv_ne hj, fun n h1 h2 => Nat.le_trans (bln_mono ?_) h2⟩
  obtain ⟨k, e⟩ := dv_dvd2 i j
  have h := congrArg Int.natAbs e
  rw [Int.natAbs_mul] at h
  rw [h]
  have : k ≠ 0 := fun z => hj (by rw [e, z, Int.mul_zero])
  exact Nat.le_mul_of_pos_right _ (by omega)
theorem at0 {x y : D} : atI [x, y] 0 = some x := atI_nat (j := 0) rfl
theorem at1 {x y : D} : atI [x, y] 1 = some y := atI_nat (j := 1) rfl
theorem mulS {i j : Int} (h1 : bln i ≤ 4000) (h2 : bln j ≤ 4000) : MulC i j := .inr (.inr (by omega))
theorem mul9 {i j : Int} (h1 : bln i ≤ 4000) (h2 : bln j ≤ 4000) : bln (i * j) ≤ 8000 := by have := bln_mul_le i j; omega
theorem add9 {i j : Int} (h1 : bln i ≤ 8000) (h2 : bln j ≤ 8000) : bln (i + j) ≤ 9000 := by have := bln_add_le i j; omega
theorem up9 {i : Int} (h1 : bln i ≤ 8000) : bln i ≤ 9000 := by omega
theorem r_under {K : PySem.W.Frag} {c : Cls} {ds Q Ex} (h : sp_under c ds Q Ex) : rd_under K c (fin Q) (start3 2 ds) fun _ => Ex := by
  obtain ⟨a, b, rfl, ⟨a1, a2⟩, ⟨b1, b2⟩, h⟩ := h
  refine ⟨_, at0, _, at1, mulS a1 b2, _, at0, _, at1, mulS b1 a2, ?_⟩
  rw [lt_eq] at h; exact h

theorem cmp_q {n : Nat} (a b : Rat) : Cmp (n + 1) (qD a) (qD b) := by
  unfold qD
  simp only [Cmp]
  intro i x y h1 h2
  match i with
  | 0 => simp at h1 h2; subst h1 h2; cases n <;> simp [Cmp]
  | 1 => simp at h1 h2; subst h1 h2; cases n <;> simp [Cmp]
  | i + 2 => simp at h1
theorem cmp_qs {n : Nat} (a b : List Rat) : Cmp (n + 2) (.lst (a.map qD)) (.lst (b.map qD)) := by
  simp only [Cmp]
  intro i x y h1 h2
  rw [List.getElem?_map] at h1 h2
  cases q1 : a[i]? with
  | none => rw [q1] at h1; cases h1
  | some u =>
    cases q2 : b[i]? with
    | none => rw [q2] at h2; cases h2
    | some v =>
      rw [q1] at h1; rw [q2] at h2
      cases h1; cases h2
      exact cmp_q u v
theorem cmp_nil {n : Nat} (a : List D) : Cmp (n + 1) (.lst a) (.lst []) := by
  simp only [Cmp]
  intro i x y h1 h2
  simp at h2
theorem deq_nil (a : List Rat) : deq (.lst (a.map qD)) (.lst []) = decide (a = []) := by
  cases a <;> simp [deq, deqs]

theorem sl1 : (1000 : Nat) < sizeLine := by decide
theorem deq_int (i j : Int) : deq (.int i) (.int j) = decide (i = j) := by
  rw [Bool.eq_iff_iff]; simp [deq]
theorem l_law_cell {c : Cls} {ds P E} (h : sp_law_cell c ds P E) : ds.length = 2 := by obtain ⟨_, _, rfl, _⟩ := h; rfl
theorem l_law {c : Cls} {ds P E} (h : sp_law c ds P E) : ds.length = 1 := by obtain ⟨_, rfl, _⟩ := h; rfl
theorem r_law_cell {K : PySem.W.Frag} {c : Cls} {ds Q Ex} (h : sp_law_cell c ds Q Ex) : rd_law_cell K c (fin Q) (start3 3 ds) fun _ => Ex := by
  obtain ⟨ns, k, rfl, hl, hk, h⟩ := h
  show if decide ((k : Int) < ((ns.map D.int).length : Int)) = true then _ else _
  rw [List.length_map]
  by_cases hlt : k < ns.length
  · rw [if_pos (by simpa using hlt)]
    refine ⟨.int ns[k], atI_nat (by simp [hlt]), ?_⟩
    unfold cellV at h
    rw [dif_pos hlt] at h
    exact h
  · rw [if_neg (by simpa using hlt)]
    unfold cellV at h
    rw [dif_neg hlt] at h
    have bk : bln (k : Int) ≤ 10 := bln_le (by simp only [Int.natAbs_natCast]; omega)
    refine ⟨.inr (.inl (bln_le (by decide))), ?_⟩
    show if decide ((0 : Int) < ((ns.map D.int).length : Int)) = true then _ else _
    rw [List.length_map]
    have fin2 : ∀ m : Int, m.natAbs < 2 ^ 40 → Q (.int ((m * m).fmod 2147483629)) → MulC m m ∧ (2147483629 : Int) ≠ 0 ∧ Q (.int ((m * m).fmod 2147483629)) := fun m hm hq =>
      ⟨.inl (Nat.le_trans (bln_le hm) (by decide)), by decide, hq⟩
    by_cases he : ns = []
    · subst he
      rw [if_neg (by simp)]
      rw [if_pos rfl] at h
      exact fin2 _ (by omega) h
    · have hp : 0 < ns.length := (by cases ns with | nil => exact absurd rfl he | cons _ _ => exact Nat.succ_pos _)
      rw [if_pos (by simpa using hp)]
      rw [if_neg he] at h
      refine ⟨.inr (.inl (bln_le (by decide))), show ((ns.map D.int).length : Int) ≠ 0 by rw [List.length_map]; omega, ?_⟩
      have hm : ((k : Int) * 7).fmod ((ns.map D.int).length : Int) = ((k * 7 % ns.length : Nat) : Int) := by
        rw [List.length_map, Int.fmod_eq_emod_of_nonneg _ (by omega), Int.natCast_emod, Int.natCast_mul]
        rfl
      dsimp only [cSeq, cNext, cC, cV, cB, cT, cAnd, cOr, cNot, cAndV, cOrV, cNotV, cIf, cNil, cCons, cTup, fLst, cOf, cDrop, cRet, cRetN, cIfS, cSet, cSetF, hName, hNil, hCons, hTup, cAsg, cPar, cCall, cU, cCB, gNeg, gAdd, gSub, gMul, gDiv, gMod, gPow, gLt, gLe, gGt, gGe, gIs, gIsN, gEq, gNe, gIx, wI, wI0, u_abs, u_len, u_max, u_min, cRaise, cTry, cTryA, cIsi, cIsx, List.length, List.set_cons_zero, List.set_cons_succ, List.getElem?_cons_zero, List.getElem?_cons_succ, isNon, fCB, n_list, u_tuple, oNo, oIs, fSl, fRev, cPeek, cPeekT, cIxO, cOw, w_append, w_insert, fCat, gIn, cChain, cCallN, u_int, n_sorted, i_enumerate, cIsv, cIst, iL, cForI, frzG, frzS, cYes, List.map, List.append, List.cons_append, List.nil_append]
      rw [hm]
      have hlt2 : k * 7 % ns.length < ns.length := Nat.mod_lt _ hp
      refine ⟨.int (ns.getD (k * 7 % ns.length) 0), atI_nat (by simp [List.getElem?_map, List.getD_eq_getElem?_getD, hlt2]), ?_⟩
      refine ⟨.inr (.inl (bln_le (by decide))), .inr (.inl (bln_le (by decide))), by decide, ?_⟩
      refine fin2 _ ?_ h
      have h1 := fmod_natAbs_lt (a := ns.getD (k * 7 % ns.length) 0 * 48271 + (k : Int) * 7919) (b := 2147483647) (by decide)
      exact Nat.lt_trans h1 (by decide)
theorem isi_int (i : Int) : isiB (.int i) "int" = some true ∧ isiB (.int i) "bool" = some false := ⟨by unfold isiB tyD; show PySem.W.kitOne [] _ _ = _; decide +kernel, by unfold isiB tyD; show PySem.W.kitOne [] _ _ = _; decide +kernel⟩
theorem l_law_stream {c : Cls} {ds P E} (h : sp_law_stream c ds P E) : ds.length = 2 := by obtain ⟨_, _, rfl, _⟩ := h; rfl
theorem l_law_low {c : Cls} {ds P E} (h : sp_law_low c ds P E) : ds.length = 2 := by obtain ⟨_, _, rfl, _⟩ := h; rfl
theorem l_law_plus {c : Cls} {ds P E} (h : sp_law_plus c ds P E) : ds.length = 2 := by obtain ⟨_, _, rfl, _⟩ := h; rfl
theorem l_law_less {c : Cls} {ds P E} (h : sp_law_less c ds P E) : ds.length = 2 := by obtain ⟨_, _, rfl, _⟩ := h; rfl
theorem l_law_sorted {c : Cls} {ds P E} (h : sp_law_sorted c ds P E) : ds.length = 1 := by obtain ⟨_, rfl, _⟩ := h; rfl
theorem l_law_fraction {c : Cls} {ds P E} (h : sp_law_fraction c ds P E) : ds.length = 1 := by obtain ⟨_, rfl, _⟩ := h; rfl
theorem l_law_marks {c : Cls} {ds P E} (h : sp_law_marks c ds P E) : ds.length = 3 := by obtain ⟨_, _, _, rfl, _⟩ := h; rfl
theorem lfr {i m : Int} (hm : 0 < m) : 0 ≤ i.fmod m ∧ i.fmod m < m := by
  rw [Int.fmod_eq_emod_of_nonneg _ (by omega)]
  exact ⟨Int.emod_nonneg _ (by omega), Int.emod_lt_of_pos _ hm⟩
theorem r_law_stream {K : PySem.W.Frag} {c : Cls} {ds Q Ex} (h : sp_law_stream c ds Q Ex) : rd_law_stream K c (fin Q) (start3 5 ds) fun _ => Ex := by
  obtain ⟨i, m, rfl, hm, h⟩ := h
  refine ⟨Nat.zero_le _, show (2147483647 : Int) ≠ 0 by decide, ⟨by omega, by omega⟩, fun k Γ => ∃ (xs : List Int) (n : Int) (y : Slot), Γ = [.pu (.int i), .pu (.int m), .ow (xs.map .int), .pu (.int n), y] ∧ xs.length = k ∧ (∀ x ∈ xs, 0 ≤ x ∧ x < 2147483647) ∧ 0 ≤ n ∧ n < 2147483647, ⟨[], _, _, rfl, rfl, (fun _ z => by cases z), (lfr (i := i) (m := 2147483647) (by decide)).1, (lfr (i := i) (m := 2147483647) (by decide)).2⟩, ?_, ?_⟩
  · rintro k _ hk ⟨xs, n, y, rfl, hl, hx, n0, n1⟩
    have := lfr (i := n * 48271 + 12345) (m := 2147483647) (by decide)
    refine ⟨.inr (.inl (bln_le (by decide))), show (2147483647 : Int) ≠ 0 by decide, ⟨_, rfl⟩, by rw [List.length_map]; have := sl1; omega, xs ++ [(n * 48271 + 12345).fmod 2147483647], _, _, by rw [List.map_append]; rfl, by simp [hl], fun x hm => ?_, this.1, this.2⟩
    rcases List.mem_append.mp hm with hm | hm
    · exact hx x hm
    · simp only [List.mem_singleton] at hm; subst hm; exact this
  · rintro _ ⟨xs, n, y, rfl, hl, hx, _⟩
    exact h xs (by rw [hl]; simp) hx
theorem r_law_low {K : PySem.W.Frag} {c : Cls} {ds Q Ex} (h : sp_law_low c ds Q Ex) : rd_law_low K c (fin Q) (start3 4 ds) fun _ => Ex := by
  obtain ⟨i, j, rfl, b1, b2, hj, h⟩ := h
  have hj0 : j ≠ 0 := by omega
  rw [← qD_fr hj0] at h
  refine ⟨fun m Γ => ∃ a b : Int, Γ = [.pu (.int i), .pu (.int j), .pu (.int a), .pu (.int b)] ∧ 0 ≤ a ∧ 0 ≤ b ∧ m = b.natAbs ∧ Int.gcd a b = Int.gcd i j, ⟨_, (if i < 0 then -i else i), j, rfl, by split <;> omega, by omega, rfl, ?_⟩, ?_⟩
  · have e1 : (if i < 0 then -i else i) = (i.natAbs : Int) := by split <;> omega
    rw [e1]; simp [Int.gcd]
  rintro m _ ⟨a, b, rfl, ha, hb, rfl, hg⟩
  show if decide (0 < b) = true then _ else _
  by_cases hz : 0 < b
  · rw [if_pos (by simpa using hz)]
    have h0 : b ≠ 0 := by omega
    refine ⟨h0, _, fmod_natAbs_lt h0, b, a.fmod b, rfl, hb, ?_, rfl, by rw [gcd_fmod, hg]⟩
    rw [Int.fmod_eq_emod_of_nonneg _ hb]; exact Int.emod_nonneg _ h0
  · rw [if_neg (by simpa using hz)]
    have : b = 0 := by omega
    subst this
    rw [Int.gcd_zero_right] at hg
    have e : a = dv i j := by unfold dv; rw [if_neg (by omega)]; omega
    obtain ⟨d0, d1⟩ := fr_bounds (i := i) hj0
    subst e
    exact ⟨⟨d0, d1 _ b1 b2⟩, ⟨d0, d1 _ b1 b2⟩, by show (2 : Nat) ≤ sizeLine; decide, h⟩
theorem den_mul_pos (a b : Rat) : (0 : Int) < a.den * b.den := Int.mul_pos (by have := a.den_pos; omega) (by have := b.den_pos; omega)
theorem r_law_plus {K : PySem.W.Frag} {c : Cls} {ds Q Ex} (h : sp_law_plus c ds Q Ex) : rd_law_plus K c (fin Q) (start3 2 ds) fun _ => Ex := by
  obtain ⟨a, b, rfl, ⟨a1, a2⟩, ⟨b1, b2⟩, h⟩ := h
  refine ⟨_, at0, _, at1, mulS a1 b2, _, at0, _, at1, mulS b1 a2, _, at1, _, at1, mulS a2 b2, _, _, rfl, add9 (mul9 a1 b2) (mul9 b1 a2), up9 (mul9 a2 b2), den_mul_pos a b, ?_⟩
  rw [← add_eq]; exact h
theorem r_law_less {K : PySem.W.Frag} {c : Cls} {ds Q Ex} (h : sp_law_less c ds Q Ex) : rd_law_less K c (fin Q) (start3 2 ds) fun _ => Ex := by
  obtain ⟨a, b, rfl, ⟨a1, a2⟩, ⟨b1, b2⟩, h⟩ := h
  refine ⟨_, at0, _, at1, mulS a1 b2, _, at0, _, at1, mulS b1 a2, ?_⟩
  rw [lt_eq] at h; exact h
theorem r_law_sorted {K : PySem.W.Frag} {c : Cls} {ds Q Ex} (h : sp_law_sorted c ds Q Ex) : rd_law_sorted K c (fin Q) (start3 4 ds) fun _ => Ex := by
  obtain ⟨qs, rfl, hl, hz, h⟩ := h
  refine ⟨Nat.zero_le _, fun i Γ => ∃ (l : List Rat) (x y : Slot), Γ = [.pu (.lst (qs.map qD)), .ow (l.map qD), x, y] ∧ l = (qs.take i).foldl insQ [] ∧ l.Perm (qs.take i) ∧ Srt l, ⟨[], _, _, rfl, rfl, by simp, List.Pairwise.nil⟩, ?_, ?_⟩
  · rintro i d _ hi ⟨l, x, y, rfl, hl', hp, hs⟩
    rw [List.getElem?_map] at hi
    cases q : qs[i]? with
    | none => rw [q] at hi; cases hi
    | some a =>
      rw [q] at hi
      cases hi
      have hil : i < qs.length := (List.getElem?_eq_some_iff.mp q).1
      have llen : l.length = i := by rw [hp.length_eq, List.length_take]; omega
      have lz : ∀ o ∈ l, Sz 4000 o := fun o ho => hz o (List.mem_of_mem_take (hp.mem_iff.mp ho))
      have az : Sz 4000 a := hz a (List.mem_of_getElem? q)
      have last : ∀ k : Nat, k ≤ l.length → cnt a l = k → rd_law_sorted_b1_2 K c { fin Q with nx := fun Γ => ∃ (l : List Rat) (x y : Slot), Γ = [.pu (.lst (qs.map qD)), .ow (l.map qD), x, y] ∧ l = (qs.take (i + 1)).foldl insQ [] ∧ l.Perm (qs.take (i + 1)) ∧ Srt l, ct := fun Γ => ∃ (l : List Rat) (x y : Slot), Γ = [.pu (.lst (qs.map qD)), .ow (l.map qD), x, y] ∧ l = (qs.take (i + 1)).foldl insQ [] ∧ l.Perm (qs.take (i + 1)) ∧ Srt l, bk := fun Γ' => rd_law_sorted_2 K c (fin Q) Γ' fun _ => Ex } [.pu (.lst (qs.map qD)), .ow (l.map qD), .pu (qD a), .pu (.int k)] fun _ => Ex := by
        intro k hk hc
        refine ⟨⟨_, rfl⟩, by omega, by rw [List.length_map]; omega, by rw [List.length_map]; have := sl1; omega, insQ l a, .pu (qD a), .pu (.int k), ?_, ?_, ?_, insQ_srt hs⟩
        · show [_, Slot.ow (insD (l.map qD) (Int.toNat (k : Int)) (qD a)), _, _] = _
          unfold insD insQ
          rw [Int.toNat_natCast, List.map_append, List.map_cons, List.map_take, List.map_drop, hc]
        · rw [List.take_add_one, q, List.foldl_append, ← hl']; rfl
        · rw [List.take_add_one, q]
          refine (insQ_perm l a).trans ?_
          refine (hp.cons a).trans ?_
          exact List.perm_append_singleton a _ |>.symm
      refine ⟨fun m Γ => ∃ k : Nat, Γ = [.pu (.lst (qs.map qD)), .ow (l.map qD), .pu (qD a), .pu (.int k)] ∧ k ≤ l.length ∧ m = l.length - k ∧ ∀ j (h : j < l.length), j < k → ¬ a < l[j], ⟨_, 0, rfl, Nat.zero_le _, rfl, fun j _ hj => by omega⟩, ?_⟩
      rintro m _ ⟨k, rfl, hk, rfl, hlt⟩
      show if decide ((k : Int) < (((l.map qD).length : Nat) : Int)) = true then _ else _
      rw [List.length_map]
      by_cases hkl : k < l.length
      · rw [if_pos (by simpa using hkl)]
        refine ⟨qD l[k], atI_nat (by simp [hkl]), a, l[k], rfl, az, lz _ (List.getElem_mem hkl), ?_⟩
        show if (!decide (a < l[k])) = true then _ else _
        by_cases hw : a < l[k]
        · rw [if_neg (by simpa using hw)]
          exact last k hk (cnt_of hs hk hlt fun _ => hw)
        · rw [if_pos (by simpa using hw)]
          refine ⟨l.length - (k + 1), by omega, k + 1, rfl, by omega, rfl, fun j hj hjk => ?_⟩
          by_cases ej : j = k
          · subst ej; exact hw
          · exact hlt j hj (by omega)
      · rw [if_neg (by simpa using hkl)]
        obtain rfl : k = l.length := by omega
        exact last _ (Nat.le_refl _) (cnt_of hs (Nat.le_refl _) hlt fun h => absurd h (Nat.lt_irrefl _))
  · rintro _ ⟨l, x, y, rfl, hl', hp, hs⟩
    have e : l = srt qs := by rw [hl', List.length_map, List.take_length]; rfl
    subst e
    exact h
theorem r_law_fraction {K : PySem.W.Frag} {c : Cls} {ds Q Ex} (h : sp_law_fraction c ds Q Ex) : rd_law_fraction K c (fin Q) (start3 1 ds) fun _ => Ex := by
  obtain ⟨i, rfl, hi0, hi1, h⟩ := h
  have last : ∀ t b : Int, t.natAbs < 2 ^ 58 → 1 ≤ b → b ≤ 1000 → sp_law_low c [.int t, .int b] Q Ex := fun t b h1 h2 h3 => by
    have e1 : bln t ≤ 60 := Nat.le_trans (bln_le h1) (by decide)
    have e2 : bln b ≤ 60 := Nat.le_trans (bln_le (k := 10) (by omega)) (by decide)
    exact ⟨t, b, rfl, by omega, by omega, by omega, h _ (sz_div (by omega) e1 e2)⟩
  refine ⟨show (3 : Int) ≠ 0 by decide, by simp [Cmp], ?_⟩
  rw [deq_int]
  show if decide (i.fmod 3 = 0) = true then _ else _
  split
  · have := lfr (i := i.fdiv 3) (m := 10) (by decide)
    refine ⟨⟨show (3 : Int) ≠ 0 by decide, bln9 (by decide)⟩, show (10 : Int) ≠ 0 by decide, by show (2 : Nat) ≤ sizeLine; decide, ?_⟩
    have := h (((i.fdiv 3).fmod 10 : Int) : Rat) (sz_int (Nat.le_trans (bln_le (k := 10) (by omega)) (by decide)) (by decide))
    rwa [qD_int] at this
  · refine ⟨show (3 : Int) ≠ 0 by decide, by simp [Cmp], ?_⟩
    rw [deq_int]
    show if decide (i.fmod 3 = 1) = true then _ else _
    split
    · have h1 := lfr (i := i.fdiv 3) (m := 23) (by decide)
      have h2 := lfr (i := i.fdiv 69) (m := 4) (by decide)
      exact ⟨⟨show (3 : Int) ≠ 0 by decide, bln9 (by decide)⟩, show (23 : Int) ≠ 0 by decide, ⟨show (69 : Int) ≠ 0 by decide, bln9 (by decide)⟩, show (4 : Int) ≠ 0 by decide, last _ _ (by omega) (by omega) (by omega)⟩
    · have h1 := lfr (i := i.fdiv 3 * 48271) (m := 10 ^ 14) (by decide)
      have h2 := lfr (i := i.fdiv 3) (m := 997) (by decide)
      exact ⟨⟨show (3 : Int) ≠ 0 by decide, bln9 (by decide)⟩, .inr (.inl (bln_le (by decide))), show CPow 10 14 from ⟨by decide, by decide, by decide⟩, show (10 ^ 14 : Int) ≠ 0 by decide, show CPow 10 13 from ⟨by decide, by decide, by decide⟩, ⟨show (3 : Int) ≠ 0 by decide, bln9 (by decide)⟩, show (997 : Int) ≠ 0 by decide,
        last _ _ (show ((i.fdiv 3 * 48271).fmod (10 ^ 14) - 10 ^ 13).natAbs < 2 ^ 58 by omega) (by omega) (by omega)⟩
theorem qD_low {a b : Int} (hb : 0 < b) (h : Int.gcd a b = 1) : D.tup [.int a, .int b] = qD ((a : Rat) / (b : Rat)) := by
  rw [← qD_fr (by omega), fr_low hb h]
theorem fmod_nat {i : Int} {n : Nat} (h : 0 < n) : ∃ k : Nat, i.fmod (n : Int) = (k : Int) ∧ k < n := by
  have := lfr (i := i) (m := (n : Int)) (by omega)
  exact ⟨(i.fmod (n : Int)).toNat, by omega, by omega⟩
theorem r_law_marks {K : PySem.W.Frag} {c : Cls} {ds Q Ex} (h : sp_law_marks c ds Q Ex) : rd_law_marks K c (fin Q) (start3 7 ds) fun _ => Ex := by
  obtain ⟨ns, f, m, rfl, hn, hf, hm, h⟩ := h
  refine ⟨Nat.zero_le _, ⟨by omega, by omega⟩, fun k Γ => ∃ (qs : List Rat) (x y z : Slot), Γ = [.pu (.lst (ns.map .int)), .pu (.int f), .pu (.int m), .ow (qs.map qD), x, y, z] ∧ qs.length = k ∧ ∀ q ∈ qs, Sz (60 + 4 * k) q, ⟨[], _, _, _, rfl, rfl, fun _ z => by cases z⟩, ?_, ?_⟩
  · rintro k _ hk ⟨qs, x, y, z, rfl, hl, hz⟩
    have hk' : k < m := by simpa using hk
    have hlm : qs.length ≤ 60 := by omega
    refine ⟨ns, f + k, by show [D.lst _, D.int ((f : Int) + (0 + (k : Int)))] = _; rw [show (f : Int) + (0 + (k : Int)) = ((f + k : Nat) : Int) by omega], hn, by omega, _, 2, rfl, by decide, fun xs hx hb => ?_⟩
    match xs, hx with
    | [u, v], _ =>
      have hu := hb u (by simp)
      have hv := hb v (by simp)
      refine ⟨_, at0, u, rfl, hu.1, hu.2, fun q sq => ?_⟩
      have fin4 : ∀ p : Rat, Sz (60 + 4 * (k + 1)) p → rd_law_marks_b1_4 K c { fin Q with nx := fun Γ => ∃ (qs : List Rat) (x y z : Slot), Γ = [.pu (.lst (ns.map .int)), .pu (.int f), .pu (.int m), .ow (qs.map qD), x, y, z] ∧ qs.length = k + 1 ∧ ∀ q ∈ qs, Sz (60 + 4 * (k + 1)) q, ct := fun Γ => ∃ (qs : List Rat) (x y z : Slot), Γ = [.pu (.lst (ns.map .int)), .pu (.int f), .pu (.int m), .ow (qs.map qD), x, y, z] ∧ qs.length = k + 1 ∧ ∀ q ∈ qs, Sz (60 + 4 * (k + 1)) q, bk := fun Γ' => rd_law_marks_2 K c (fin Q) Γ' fun _ => Ex } [.pu (.lst (ns.map .int)), .pu (.int f), .pu (.int m), .ow (qs.map qD), .pu (.int (0 + (k : Int))), .pu (.lst [.int u, .int v]), .pu (qD p)] fun _ => Ex := by
        intro p sp
        refine ⟨⟨_, rfl⟩, by rw [List.length_map]; have := sl1; omega, qs ++ [p], _, _, _, by rw [List.map_append]; rfl, by simp [hl], fun o ho => ?_⟩
        rcases List.mem_append.mp ho with ho | ho
        · exact (hz o ho).up (by omega)
        · simp only [List.mem_singleton] at ho; subst ho; exact sp
      have third : ∀ p : Rat, Sz (60 + 4 * (k + 1)) p → rd_law_marks_b1_3 K c { fin Q with nx := fun Γ => ∃ (qs : List Rat) (x y z : Slot), Γ = [.pu (.lst (ns.map .int)), .pu (.int f), .pu (.int m), .ow (qs.map qD), x, y, z] ∧ qs.length = k + 1 ∧ ∀ q ∈ qs, Sz (60 + 4 * (k + 1)) q, ct := fun Γ => ∃ (qs : List Rat) (x y z : Slot), Γ = [.pu (.lst (ns.map .int)), .pu (.int f), .pu (.int m), .ow (qs.map qD), x, y, z] ∧ qs.length = k + 1 ∧ ∀ q ∈ qs, Sz (60 + 4 * (k + 1)) q, bk := fun Γ' => rd_law_marks_2 K c (fin Q) Γ' fun _ => Ex } [.pu (.lst (ns.map .int)), .pu (.int f), .pu (.int m), .ow (qs.map qD), .pu (.int (0 + (k : Int))), .pu (.lst [.int u, .int v]), .pu (qD p)] fun _ => Ex := by
        intro p sp
        refine ⟨_, at1, show (4 : Int) ≠ 0 by decide, by simp [Cmp], ?_⟩
        rw [deq_int]
        by_cases e1 : v.fmod 4 = 2
        · rw [decide_eq_true e1]
          refine ⟨Nat.zero_le _, cmp_nil _, ?_⟩
          rw [deq_nil]
          by_cases e2 : qs = []
          · rw [decide_eq_true e2]; exact fin4 p sp
          · rw [decide_eq_false e2]
            have hpos : 0 < qs.length := List.length_pos_iff.mpr e2
            obtain ⟨j, ej, hj⟩ := fmod_nat (i := v.fdiv 4) hpos
            refine ⟨⟨_, rfl⟩, _, at1, ⟨show (4 : Int) ≠ 0 by decide, bln9 (by decide)⟩, trivial, ?_⟩
            show (((qs.map qD).length : Nat) : Int) ≠ 0 ∧ _
            rw [List.length_map]
            refine ⟨by omega, ?_⟩
            show ∃ d, atI (qs.map qD) ((v.fdiv 4).fmod (qs.length : Int)) = some d ∧ _
            rw [ej]
            refine ⟨qD qs[j], atI_nat (by simp [hj]), by show (2 : Nat) ≤ sizeLine; decide, by show (2 : Nat) ≤ sizeLine; decide, by show (2 : Nat) ≤ sizeLine; decide, by show (2 : Nat) ≤ sizeLine; decide, by show (4 : Nat) ≤ sizeLine; decide, ?_⟩
            obtain ⟨t, et, ht⟩ := fmod_nat (i := v.fdiv 64) (n := 4) (by decide)
            refine ⟨_, at1, ⟨show (64 : Int) ≠ 0 by decide, bln9 (by decide)⟩, show (4 : Int) ≠ 0 by decide, ?_⟩
            show ∃ d, atI [D.tup [.int 1, .int 1], .tup [.int (-1), .int 1], .tup [.int 1, .int 2], .tup [.int 2, .int 1]] ((v.fdiv 64).fmod 4) = some d ∧ _
            have et' : (v.fdiv 64).fmod 4 = (t : Int) := et
            rw [et']
            have sj := (hz _ (List.getElem_mem hj)).up (show 60 + 4 * k ≤ 4000 by omega)
            have step : ∀ (o : Rat) (d : D), d = qD o → Sz 2 o → sp_law_plus c [qD qs[j], d] (fun d => rd_law_marks_b1_4 K c { fin Q with nx := fun Γ => ∃ (qs : List Rat) (x y z : Slot), Γ = [.pu (.lst (ns.map .int)), .pu (.int f), .pu (.int m), .ow (qs.map qD), x, y, z] ∧ qs.length = k + 1 ∧ ∀ q ∈ qs, Sz (60 + 4 * (k + 1)) q, ct := fun Γ => ∃ (qs : List Rat) (x y z : Slot), Γ = [.pu (.lst (ns.map .int)), .pu (.int f), .pu (.int m), .ow (qs.map qD), x, y, z] ∧ qs.length = k + 1 ∧ ∀ q ∈ qs, Sz (60 + 4 * (k + 1)) q, bk := fun Γ' => rd_law_marks_2 K c (fin Q) Γ' fun _ => Ex } [.pu (.lst (ns.map .int)), .pu (.int f), .pu (.int m), .ow (qs.map qD), .pu (.int (0 + (k : Int))), .pu (.lst [.int u, .int v]), .pu d] fun _ => Ex) Ex := by
              rintro o d rfl so
              exact ⟨_, o, rfl, sj, so.up (by decide), fin4 _ ((sz_add (hz _ (List.getElem_mem hj)) so).up (by omega))⟩
            have ht4 : t = 0 ∨ t = 1 ∨ t = 2 ∨ t = 3 := by omega
            rcases ht4 with rfl | rfl | rfl | rfl
            · exact ⟨_, atI_nat (j := 0) rfl, step 1 _ rfl ⟨bln_le (by decide), bln_le (by decide)⟩⟩
            · exact ⟨_, atI_nat (j := 1) rfl, step (-1) _ rfl ⟨bln_le (by decide), bln_le (by decide)⟩⟩
            · exact ⟨_, atI_nat (j := 2) rfl, step (((1 : Int) : Rat) / ((2 : Int) : Rat)) _ (qD_low (by decide) (by decide)) (sz_div (by decide) (bln_le (by decide)) (bln_le (by decide)))⟩
            · exact ⟨_, atI_nat (j := 3) rfl, step 2 _ rfl ⟨bln_le (by decide), bln_le (by decide)⟩⟩
        · rw [decide_eq_false e1]; exact fin4 p sp
      refine ⟨_, at1, show (4 : Int) ≠ 0 by decide, by simp [Cmp], ?_⟩
      rw [deq_int]
      by_cases e1 : v.fmod 4 = 1
      · rw [decide_eq_true e1]
        refine ⟨Nat.zero_le _, cmp_nil _, ?_⟩
        rw [deq_nil]
        by_cases e2 : qs = []
        · rw [decide_eq_true e2]; exact third q (sq.up (by omega))
        · rw [decide_eq_false e2]
          have hpos : 0 < qs.length := List.length_pos_iff.mpr e2
          obtain ⟨j, ej, hj⟩ := fmod_nat (i := v.fdiv 4) hpos
          refine ⟨⟨_, rfl⟩, _, at1, ⟨show (4 : Int) ≠ 0 by decide, bln9 (by decide)⟩, trivial, ?_⟩
          show (((qs.map qD).length : Nat) : Int) ≠ 0 ∧ _
          rw [List.length_map]
          refine ⟨by omega, ?_⟩
          show ∃ d, atI (qs.map qD) ((v.fdiv 4).fmod (qs.length : Int)) = some d ∧ _
          rw [ej]
          exact ⟨qD qs[j], atI_nat (by simp [hj]), third _ ((hz _ (List.getElem_mem hj)).up (by omega))⟩
      · rw [decide_eq_false e1]; exact third q (sq.up (by omega))
  · rintro _ ⟨qs, x, y, z, rfl, hl, hz⟩
    have e : (m : Int).toNat = m := by omega
    rw [e] at hl hz
    exact h qs hl hz

theorem l_law_ends {c : Cls} {ds P E} (h : sp_law_ends c ds P E) : ds.length = 1 := by obtain ⟨_, rfl, _⟩ := h; rfl
theorem fal_len (qs : List Rat) : (fal qs).length = qs.length := by unfold fal; rw [List.length_reverse, srt_len]
theorem fal_mem {qs : List Rat} {q : Rat} (h : q ∈ fal qs) : q ∈ qs := (srt_perm qs).mem_iff.mp (List.mem_reverse.mp h)
theorem getD_of {α : Type} {l : List α} {i : Nat} {d : α} (h : i < l.length) : l.getD i d = l[i] := by simp [h]
theorem getD_in {α : Type} {l : List α} {i : Nat} {d : α} (h : i < l.length) : l.getD i d ∈ l := by rw [getD_of h]; exact List.getElem_mem h
theorem fal_fall (qs : List Rat) : Fall (fal qs) := by
  intro i j hij hj
  have hi : i < (fal qs).length := by omega
  rw [getD_of hj, getD_of hi]
  unfold fal at *
  rw [List.getElem_reverse, List.getElem_reverse]
  by_cases e : i = j
  · subst e; exact Rat.le_refl
  · rw [List.length_reverse] at hj
    exact List.pairwise_iff_getElem.mp (srt_srt qs) _ _ (by omega) (by omega) (by omega)
theorem blsD_map {α : Type} (f : α → Bool) : ∀ l : List α, blsD (l.map fun x => D.bl (f x)) = some (l.map f)
  | [] => rfl
  | x :: l => by show (blsD (l.map fun x => D.bl (f x))).map _ = _; rw [blsD_map]; rfl
theorem getq (l : List Rat) {j : Nat} (h : j < l.length) : atI (l.map qD) (j : Int) = some (qD (l.getD j 0)) := atI_nat (by rw [List.getElem?_map, List.getElem?_eq_getElem h, getD_of h]; rfl)
theorem r_law_ends {K : PySem.W.Frag} {c : Cls} {ds Q Ex} (h : sp_law_ends c ds Q Ex) : rd_law_ends K c (fin Q) (start3 4 ds) fun _ => Ex := by
  obtain ⟨qs, rfl, hl, hz, h⟩ := h
  refine ⟨qs, rfl, hl, hz, ?_⟩
  show rd_law_ends_1 K c (fin Q) [.pu (.lst (qs.map qD)), .pu (.lst ((srt qs).map qD).reverse), .no, .no] fun _ => Ex
  rw [← List.map_reverse]
  change rd_law_ends_1 K c (fin Q) [.pu (.lst (qs.map qD)), .pu (.lst ((fal qs).map qD)), .no, .no] fun _ => Ex
  have fl := fal_len qs
  have fz : ∀ q ∈ fal qs, Sz 4000 q := fun q hq => hz q (fal_mem hq)
  have s1 := sl1
  generalize hf : fal qs = f at *
  refine ⟨by show (1 : Nat) ≤ sizeLine; decide, ?_⟩
  show ((-(2 ^ 62) : Int) ≤ (((f.map qD).length : Nat) : Int) ∧ _) ∧ RngW 0 (Int.toNat (((f.map qD).length : Nat) : Int)) _ _ _ _ _
  rw [List.length_map, Int.toNat_natCast]
  refine ⟨⟨by omega, by omega⟩, fun k Γ => ∃ (x : Slot), Γ = [.pu (.lst (qs.map qD)), .pu (.lst (f.map qD)), .ow ((0 :: ((List.range k).filter (endB f)).map (· + 1)).map intD), x], ⟨_, rfl⟩, ?_, ?_⟩
  · rintro k _ hk ⟨x, rfl⟩
    have hlen : ((List.range k).filter (endB f)).length ≤ k := by
      have := List.length_filter_le (endB f) (List.range k)
      rwa [List.length_range] at this
    have yes : endB f k = true → cOw 2 w_append (cCons (cB gAdd (cV 3) (cC (.int 1))) cNil) { fin Q with nx := fun Γ => ∃ (x : Slot), Γ = [.pu (.lst (qs.map qD)), .pu (.lst (f.map qD)), .ow ((0 :: ((List.range (k + 1)).filter (endB f)).map (· + 1)).map intD), x], ct := fun Γ => ∃ (x : Slot), Γ = [.pu (.lst (qs.map qD)), .pu (.lst (f.map qD)), .ow ((0 :: ((List.range (k + 1)).filter (endB f)).map (· + 1)).map intD), x], bk := fun Γ => rd_law_ends_3 K c (fin Q) Γ fun _ => Ex } [.pu (.lst (qs.map qD)), .pu (.lst (f.map qD)), .ow ((0 :: ((List.range k).filter (endB f)).map (· + 1)).map intD), .pu (.int (0 + (k : Int)))] fun _ => Ex := by
      intro he
      refine ⟨⟨_, rfl⟩, by simp only [List.length_map, List.length_cons]; omega, .pu (.int (0 + (k : Int))), ?_⟩
      have e : ((0 :: ((List.range (k + 1)).filter (endB f)).map (· + 1)).map intD) = ((0 :: ((List.range k).filter (endB f)).map (· + 1)).map intD) ++ [.int (0 + (k : Int) + 1)] := by
        rw [List.range_succ, List.filter_append, List.filter_cons, if_pos he]
        simp [intD, List.map_append]
      rw [e]; rfl
    have no : endB f k = false → ∃ (x : Slot), [Slot.pu (.lst (qs.map qD)), .pu (.lst (f.map qD)), .ow ((0 :: ((List.range k).filter (endB f)).map (· + 1)).map intD), .pu (.int (0 + (k : Int)))] = [.pu (.lst (qs.map qD)), .pu (.lst (f.map qD)), .ow ((0 :: ((List.range (k + 1)).filter (endB f)).map (· + 1)).map intD), x] := by
      intro he
      have e : (List.range (k + 1)).filter (endB f) = (List.range k).filter (endB f) := by
        rw [List.range_succ, List.filter_append, List.filter_cons, if_neg (by rw [he]; decide)]
        simp
      rw [e]; exact ⟨_, rfl⟩
    refine ⟨by simp [Cmp], ?_⟩
    rw [deq_int]
    show if decide (0 + (k : Int) + 1 = (((f.map qD).length : Nat) : Int)) = true then _ else _
    rw [List.length_map]
    by_cases h1 : k + 1 = f.length
    · rw [if_pos (by simp; omega)]
      exact yes (by unfold endB; simp [h1])
    · rw [if_neg (by simp; omega)]
      have e1 : (0 + (k : Int) + 1) = ((k + 1 : Nat) : Int) := by omega
      have e2 : (0 + (k : Int)) = ((k : Nat) : Int) := by omega
      show ∃ d, atI (f.map qD) (0 + (k : Int) + 1) = some d ∧ ∃ d', atI (f.map qD) (0 + (k : Int)) = some d' ∧ _
      rw [e1, e2, getq f (show k + 1 < f.length by omega), getq f hk]
      refine ⟨_, rfl, _, rfl, f.getD (k + 1) 0, f.getD k 0, rfl, fz _ (getD_in (by omega)), fz _ (getD_in hk), ?_⟩
      have eb : endB f k = decide (f.getD (k + 1) 0 < f.getD k 0) := by unfold endB; simp [h1]
      cases hw : decide (f.getD (k + 1) 0 < f.getD k 0) with
      | true =>
        have := yes (eb.trans hw)
        rw [e2] at this
        exact this
      | false =>
        have := no (eb.trans hw)
        rw [e2] at this
        exact this
  · rintro _ ⟨x, rfl⟩
    exact h
theorem ends_last (f : List Rat) : (endsL f).getD ((endsL f).length - 1) 0 = f.length ∧ 0 < (endsL f).length := by
  refine ⟨?_, by unfold endsL; simp⟩
  cases hn : f.length with
  | zero => unfold endsL; rw [hn]; rfl
  | succ n =>
    have e : endsL f = (0 :: ((List.range n).filter (endB f)).map (· + 1)) ++ [n + 1] := by
      unfold endsL
      rw [hn, List.range_succ, List.filter_append, List.filter_cons, if_pos (by unfold endB; simp [hn])]
      simp
    rw [e, List.length_append, List.length_singleton, Nat.add_sub_cancel, List.getD_eq_getElem?_getD, List.getElem?_append_right (Nat.le_refl _)]
    simp

theorem l_is_within {c : Cls} {ds P E} (h : sp_is_within c ds P E) : ds.length = 2 := by obtain ⟨_, _, rfl, _⟩ := h; rfl
theorem l_reached {c : Cls} {ds P E} (h : sp_reached c ds P E) : ds.length = 3 := by obtain ⟨_, _, _, rfl, _⟩ := h; rfl
theorem l_reach {c : Cls} {ds P E} (h : sp_reach c ds P E) : ds.length = 2 := by obtain ⟨_, _, rfl, _⟩ := h; rfl
theorem l_Barred {c : Cls} {ds P E} (h : sp_Barred c ds P E) : ds.length = 1 := by obtain ⟨_, rfl, _⟩ := h; rfl
theorem l_number_from {c : Cls} {ds P E} (h : sp_number_from c ds P E) : ds.length = 2 := by obtain ⟨_, _, rfl, _⟩ := h; rfl
theorem l_ends {c : Cls} {ds P E} (h : sp_ends c ds P E) : ds.length = 1 := by obtain ⟨_, rfl, _⟩ := h; rfl
theorem l_rests_behind {c : Cls} {ds P E} (h : sp_rests_behind c ds P E) : ds.length = 2 := by obtain ⟨_, _, _, rfl, _⟩ := h; rfl
theorem l_greatest_cuts {c : Cls} {ds P E} (h : sp_greatest_cuts c ds P E) : ds.length = 2 := by obtain ⟨_, _, _, rfl, _⟩ := h; rfl
theorem l_cuts {c : Cls} {ds P E} (h : sp_cuts c ds P E) : ds.length = 2 := by obtain ⟨_, _, rfl, _⟩ := h; rfl
theorem l_law_told {c : Cls} {ds P E} (h : sp_law_told c ds P E) : ds.length = 2 := by obtain ⟨_, _, rfl, _⟩ := h; rfl
theorem l_law_leading {c : Cls} {ds P E} (h : sp_law_leading c ds P E) : ds.length = 2 := by obtain ⟨_, _, _, rfl, _⟩ := h; rfl
theorem l_law_greatest {c : Cls} {ds P E} (h : sp_law_greatest c ds P E) : ds.length = 4 := by obtain ⟨_, _, _, rfl, _⟩ := h; rfl
theorem l_law_wide {c : Cls} {ds P E} (h : sp_law_wide c ds P E) : ds.length = 1 := by obtain ⟨_, rfl, _⟩ := h; rfl
theorem l_law_bounds {c : Cls} {ds P E} (h : sp_law_bounds c ds P E) : ds.length = 3 := by obtain ⟨_, _, _, rfl, _⟩ := h; rfl
theorem compR_filter {α : Type} {one : D → (List D → Prop) → Prop} (f : α → D) (p : α → Bool) : ∀ {l : List α} {P : List D → Prop}, (∀ a ∈ l, ∀ P : List D → Prop, (if p a = true then P [f a] else P []) → one (f a) P) → P ((l.filter p).map f) → compR one (l.map f) P
  | [], _, _, h => h
  | a :: l, P, k, h => by
    refine k a List.mem_cons_self _ ?_
    by_cases q : p a = true
    · rw [if_pos q]
      rw [List.filter_cons, if_pos q] at h
      exact compR_filter f p (fun b hb => k b (List.mem_cons_of_mem _ hb)) h
    · rw [if_neg q]
      rw [List.filter_cons, if_neg q] at h
      exact compR_filter f p (fun b hb => k b (List.mem_cons_of_mem _ hb)) h
theorem compR_all {α : Type} {one : D → (List D → Prop) → Prop} (f g : α → D) : ∀ {l : List α} {P : List D → Prop}, (∀ a ∈ l, ∀ P : List D → Prop, P [g a] → one (f a) P) → P (l.map g) → compR one (l.map f) P
  | [], _, _, h => h
  | a :: l, P, k, h => k a List.mem_cons_self _ (compR_all f g (fun b hb => k b (List.mem_cons_of_mem _ hb)) h)
theorem r_is_within {K : PySem.W.Frag} {c : Cls} {ds Q Ex} (h : sp_is_within c ds Q Ex) : rd_is_within K c (fin Q) (start3 2 ds) fun _ => Ex := by
  obtain ⟨x, b, rfl, h⟩ := h
  refine ⟨_, rfl, ?_⟩
  show if decide (b.1 ≤ x) = true then (∃ d, atI [D.int b.1, .int b.2] 1 = some d ∧ _) else _
  by_cases q : b.1 ≤ x
  · rw [if_pos (by simpa using q)]
    refine ⟨_, rfl, ?_⟩
    have e : wiB b x = decide (x ≤ b.2) := by unfold wiB; simp [q]
    rw [e] at h
    exact h
  · rw [if_neg (by simpa using q)]
    have e : wiB b x = false := by unfold wiB; simp [q]
    rw [e] at h
    exact h
theorem any_is {α : Type} (l : List α) (f : α → Bool) : (l.map f).any id = l.any f := by rw [List.any_map]; rfl
theorem r_reached {K : PySem.W.Frag} {c : Cls} {ds Q Ex} (h : sp_reached c ds Q Ex) : rd_reached K c (fin Q) (start3 3 ds) fun _ => Ex := by
  obtain ⟨S, l, b, rfl, h⟩ := h
  show compR _ (S.map D.int) _
  refine compR_filter D.int (fun e => l.any fun s => wiB b (e - s)) (fun e he P hp => ?_) h
  show compR _ (l.map D.int) _
  refine compR_all D.int (fun s => .bl (wiB b (e - s))) (fun s hs P' hp' => ⟨e - s, b, rfl, hp'⟩) ?_
  refine ⟨l.map fun s => wiB b (e - s), blsD_map _ l, ?_⟩
  rw [any_is]
  show if (l.any fun s => wiB b (e - s)) = true then P [.int e] else P []
  split
  · rename_i q; rw [if_pos q] at hp; exact hp
  · rename_i q; rw [if_neg q] at hp; exact hp
theorem ixm1 {n : Nat} {f : Nat → D} : atI ((List.range (n + 1)).map f) (-1) = some (f n) := by
  unfold atI
  have e : ixN ((List.range (n + 1)).map f).length (-1) = some n := by
    unfold ixN
    rw [List.length_map, List.length_range, if_neg (by decide), if_pos (by omega)]
    congr 1
    omega
  rw [e]
  show ((List.range (n + 1)).map f)[n]? = _
  rw [List.getElem?_map, List.getElem?_range (by omega)]; rfl
theorem r_reach {K : PySem.W.Frag} {c : Cls} {ds Q Ex} (h : sp_reach c ds Q Ex) : rd_reach K c (fin Q) (start3 4 ds) fun _ => Ex := by
  obtain ⟨S, bs, rfl, hl, h⟩ := h
  have s1 := sl1
  refine ⟨by show (1 : Nat) ≤ sizeLine; decide, by show (1 : Nat) ≤ sizeLine; decide, ?_⟩
  refine ⟨fun i Γ => ∃ x, Γ = [.pu (ilD S), .pu (blD bs), .ow ((List.range (i + 1)).map fun j => ilD (rk S bs j)), x], ⟨_, rfl⟩, ?_, ?_⟩
  · rintro i d _ hi ⟨x, rfl⟩
    have hi' : i < bs.length := by
      have := (List.getElem?_eq_some_iff.mp hi).1
      rwa [List.length_map] at this
    rw [List.getElem?_map, List.getElem?_eq_getElem hi'] at hi
    cases hi
    have eb : bs.getD i (0, 0) = bs[i] := by simp [hi']
    refine ⟨⟨_, rfl⟩, ⟨_, rfl⟩, _, ixm1, S, rk S bs i, bs[i], rfl, ?_⟩
    refine ⟨by rw [List.length_map, List.length_range]; omega, .pu (bdD bs[i]), ?_⟩
    show [Slot.pu (ilD S), .pu (blD bs), .ow (_ ++ [ilD (stepS S (rk S bs i) bs[i])]), .pu (bdD bs[i])] = _
    rw [List.range_succ (n := i + 1), List.map_append, ← eb]
    rfl
  · rintro _ ⟨x, rfl⟩
    rw [List.length_map]
    exact h

theorem r_Barred {K : PySem.W.Frag} {c : Cls} {a : Addr} {ds Q Ex} (h : sp_Barred c ds Q Ex) : rd_Barred___init__ K c (start3 2 (.ptr a :: ds)) (fun d Γ' => Γ'[0]? = some (.pu (.ptr a)) ∧ Q d) fun _ => Ex := by
  obtain ⟨ls, rfl, h⟩ := h
  show compR _ (ls.map ilD) _
  exact compR_all ilD ilD (fun l hl P hp => hp) ⟨rfl, h⟩
theorem r_number_from {K : PySem.W.Frag} {c : Cls} {ds Q Ex} (h : sp_number_from c ds Q Ex) : rd_number_from K c (fin Q) (start3 2 ds) fun _ => Ex := by
  obtain ⟨m, qs, rfl, hm, hz, h⟩ := h
  show compR _ (qs.map qD) _
  refine compR_filter qD (fun x => !decide (x < m)) (fun x hx P hp => ⟨x, m, rfl, hz x hx, hm, ?_⟩) ?_
  · show if (!decide (x < m)) = true then P [qD x] else P []
    split
    · rename_i q; rw [if_pos q] at hp; exact hp
    · rename_i q; rw [if_neg q] at hp; exact hp
  · show Q (.int (((qs.filter _).map qD).length : Nat))
    rw [List.length_map]
    exact h

theorem fall_cons {x : Rat} {xs : List Rat} (h : Fall (x :: xs)) : Fall xs ∧ ∀ j, j < xs.length → xs.getD j 0 ≤ x :=
  ⟨fun i j hij hj => by have := h (i + 1) (j + 1) (by omega) (by simpa using hj); simpa using this, fun j hj => by have := h 0 (j + 1) (by omega) (by simpa using hj); simpa using this⟩
theorem cnt_none {m : Rat} : ∀ {xs : List Rat}, (∀ j, j < xs.length → xs.getD j 0 < m) → cntQ xs m = 0
  | [], _ => rfl
  | x :: xs, h => by
    unfold cntQ
    have h0 := h 0 (by simp)
    rw [List.filter_cons, if_neg (by simpa using h0)]
    exact cnt_none fun j hj => by have := h (j + 1) (by simpa using hj); simpa using this
theorem cnt_fall {m : Rat} : ∀ {f : List Rat}, Fall f → ∀ j, j < f.length → (m ≤ f.getD j 0 ↔ j < cntQ f m)
  | [], _, j, hj => by simp at hj
  | x :: xs, hf, j, hj => by
    obtain ⟨h1, h2⟩ := fall_cons hf
    by_cases q : m ≤ x
    · have e : cntQ (x :: xs) m = cntQ xs m + 1 := by
        unfold cntQ
        rw [List.filter_cons, if_pos (by simpa [Rat.not_lt] using q)]
        rfl
      rw [e]
      match j, hj with
      | 0, _ => simpa using q
      | j + 1, hj =>
        have := cnt_fall (m := m) h1 j (by simpa using hj)
        rw [List.getD_cons_succ, this]
        omega
    · have lt : ∀ j, j < xs.length → xs.getD j 0 < m := fun j hj => Rat.not_le.mp fun z => q (Rat.le_trans z (h2 j hj))
      have e : cntQ (x :: xs) m = 0 := by
        unfold cntQ
        rw [List.filter_cons, if_neg (by simpa [Rat.not_lt] using q)]
        exact cnt_none lt
      rw [e]
      match j, hj with
      | 0, _ => simpa using q
      | j + 1, hj =>
        have := lt j (by simpa using hj)
        rw [List.getD_cons_succ]
        constructor
        · intro z; exact absurd this (Rat.not_lt.mpr z)
        · intro z; omega
theorem cntQ_le (f : List Rat) (m : Rat) : cntQ f m ≤ f.length := by unfold cntQ; exact List.length_filter_le _ _
theorem cnt_perm {a b : List Rat} (h : a.Perm b) (m : Rat) : cntQ a m = cntQ b m := by unfold cntQ; exact (h.filter _).length_eq
theorem fal_perm (qs : List Rat) : (fal qs).Perm qs := (List.reverse_perm _).trans (srt_perm qs)
theorem ends_cnt {f : List Rat} (hf : Fall f) (e : Nat) : e ∈ endsL f ↔ e = 0 ∨ ∃ m ∈ f, e = cntQ f m := by
  unfold endsL
  rw [List.mem_cons]
  refine or_congr_right ?_
  rw [List.mem_map]
  constructor
  · rintro ⟨k, hk, rfl⟩
    obtain ⟨h1, h2⟩ := List.mem_filter.mp hk
    have hk := List.mem_range.mp h1
    refine ⟨f.getD k 0, getD_in hk, ?_⟩
    have a := (cnt_fall (m := f.getD k 0) hf k hk).mp Rat.le_refl
    have le := cntQ_le f (f.getD k 0)
    unfold endB at h2
    simp only [Bool.or_eq_true, decide_eq_true_eq] at h2
    rcases h2 with h2 | h2
    · omega
    · by_cases q : k + 1 < f.length
      · have : ¬ k + 1 < cntQ f (f.getD k 0) := fun z => Rat.not_le.mpr h2 ((cnt_fall (m := f.getD k 0) hf (k + 1) q).mpr z)
        omega
      · omega
  · rintro ⟨m, hm, rfl⟩
    obtain ⟨i, hi, rfl⟩ := List.mem_iff_getElem.mp hm
    have hi' := (cnt_fall (m := f[i]) hf i hi).mp (by rw [getD_of hi]; exact Rat.le_refl)
    have le := cntQ_le f f[i]
    refine ⟨cntQ f f[i] - 1, List.mem_filter.mpr ⟨List.mem_range.mpr (by omega), ?_⟩, by omega⟩
    unfold endB
    simp only [Bool.or_eq_true, decide_eq_true_eq]
    by_cases q : cntQ f f[i] = f.length
    · left; omega
    · right
      rw [show cntQ f f[i] - 1 + 1 = cntQ f f[i] by omega]
      have a : ¬ f[i] ≤ f.getD (cntQ f f[i]) 0 := fun z => absurd ((cnt_fall (m := f[i]) hf (cntQ f f[i]) (by omega)).mp z) (Nat.lt_irrefl _)
      have b := (cnt_fall (m := f[i]) hf (cntQ f f[i] - 1) (by omega)).mpr (by omega)
      exact Rat.not_le.mp fun z => a (Rat.le_trans b z)
theorem mem_endsI {qs : List Rat} {i : Int} : i ∈ endsI qs ↔ i ∈ 0 :: qs.map fun m => (cntQ qs m : Int) := by
  unfold endsI
  rw [List.mem_map, List.mem_cons, List.mem_map]
  have key := ends_cnt (fal_fall qs)
  constructor
  · rintro ⟨e, he, rfl⟩
    rcases (key e).mp he with rfl | ⟨m, hm, rfl⟩
    · left; rfl
    · right; exact ⟨m, fal_mem hm, by rw [cnt_perm (fal_perm qs)]; rfl⟩
  · rintro (rfl | ⟨m, hm, rfl⟩)
    · exact ⟨0, (key 0).mpr (.inl rfl), rfl⟩
    · exact ⟨cntQ qs m, (key _).mpr (.inr ⟨m, (fal_perm qs).mem_iff.mpr hm, (cnt_perm (fal_perm qs) m).symm⟩), rfl⟩
theorem ends_rise (qs : List Rat) : (endsI qs).Pairwise (· < ·) := by
  unfold endsI endsL
  rw [List.map_cons, List.pairwise_cons, List.map_map]
  refine ⟨fun i hi => ?_, ?_⟩
  · obtain ⟨k, _, rfl⟩ := List.mem_map.mp hi
    show (0 : Int) < Int.ofNat (k + 1)
    exact Int.ofNat_lt.mpr (Nat.succ_pos k)
  · rw [List.pairwise_map]
    refine (List.Pairwise.filter _ (List.pairwise_lt_range)).imp fun {a b} h => ?_
    show Int.ofNat (a + 1) < Int.ofNat (b + 1)
    exact Int.ofNat_lt.mpr (by omega)
theorem intsD_ints : ∀ l : List Int, intsD (l.map .int) = some l
  | [] => rfl
  | n :: l => by show (intsD (l.map .int)).map _ = _; rw [intsD_ints]; rfl
theorem r_ends {K : PySem.W.Frag} {c : Cls} {ds Q Ex} (h : sp_ends c ds Q Ex) : rd_ends K c (fin Q) (start3 1 ds) fun _ => Ex := by
  obtain ⟨qs, rfl, hl, hz, h⟩ := h
  have s1 := sl1
  refine ⟨by show (1 : Nat) ≤ sizeLine; decide, ?_⟩
  show compR _ (qs.map qD) _
  refine compR_all qD (fun m => .int (cntQ qs m)) (fun m hm P hp => ⟨m, qs, rfl, hz m hm, hz, hp⟩) ?_
  refine ⟨by show 1 + (qs.map fun m => D.int (cntQ qs m)).length ≤ sizeLine; rw [List.length_map]; omega, ?_⟩
  refine ⟨0 :: qs.map fun m => (cntQ qs m : Int), ?_, ?_, fun ms hp hm => ?_⟩
  · have := intsD_ints (0 :: qs.map fun m => (cntQ qs m : Int))
    rw [List.map_cons, List.map_map] at this
    exact this
  · rw [List.length_cons, List.length_map]; omega
  · obtain rfl : ms = endsI qs := rise_eq hp (ends_rise qs) fun i => (hm i).trans mem_endsI.symm
    exact h
theorem bl_rev (bs : List Bd) : (bs.map bdD).reverse = bs.reverse.map bdD := by rw [List.map_reverse]
theorem rng_rev {n : Nat} {f : Nat → D} : ((List.range (n + 1)).map f).reverse = (List.range (n + 1)).map fun i => f (n - i) := by
  apply List.ext_getElem
  · simp
  · intro i h1 h2
    simp only [List.length_reverse, List.length_map, List.length_range] at h1
    rw [List.getElem_reverse]
    simp
theorem cut1 (xs : List D) : cutD xs (some 1) none = xs.drop 1 := by
  unfold cutD HT.sIx
  dsimp only
  rw [if_neg (by decide)]
  cases xs with
  | nil => rfl
  | cons x xs =>
    rw [show min (Int.toNat 1) (x :: xs).length = 1 by simp]
    simp
theorem rng_drop {n : Nat} {f : Nat → D} : ((List.range (n + 1)).map f).drop 1 = (List.range n).map fun i => f (i + 1) := by
  rw [List.range_succ_eq_map, List.map_cons, List.drop_one, List.tail_cons, List.map_map]
  rfl
theorem r_rests_behind {K : PySem.W.Frag} {c : Cls} {ds Q Ex} (h : sp_rests_behind c ds Q Ex) : rd_rests_behind K c (fin Q) (start3 4 ds) fun _ => Ex := by
  obtain ⟨S, n, bs, rfl, hl, hn, h⟩ := h
  show compR _ (S.map D.int).reverse _
  rw [← List.map_reverse]
  refine compR_all D.int (fun e => .int (n - e)) (fun e he P hp => ⟨_, hn, hp⟩) ?_
  have eb : (S.reverse.map fun e => D.int (n - e)) = (backS S n).map .int := by unfold backS; rw [List.map_map]; rfl
  rw [eb]
  show sp_reach c [ilD (backS S n), .lst (bs.map bdD).reverse] (fun d => rd_rests_behind_2 K c (fin Q) [.pu (ilD S), .pu (blD bs), .pu (ilD (backS S n)), .pu d] fun _ => Ex) Ex
  rw [bl_rev]
  refine ⟨backS S n, bs.reverse, rfl, by rw [List.length_reverse]; exact hl, ?_⟩
  rw [List.length_reverse]
  show Q (.lst (cutD ((List.range (bs.length + 1)).map _).reverse (some 1) none))
  rw [cut1, rng_rev, rng_drop]
  exact h

theorem zip_rg {n : Nat} (f g : Nat → D) : zipD ((List.range n).map f) ((List.range n).map g) = (List.range n).map fun i => .tup [f i, g i] := by
  unfold zipD
  apply List.ext_getElem
  · simp
  · intro i h1 h2; simp
theorem bl_rng (bs : List Bd) : bs.map bdD = (List.range bs.length).map fun k => bdD (bs.getD k (0, 0)) := by
  apply List.ext_getElem
  · simp
  · intro i h1 h2
    simp only [List.length_map] at h1
    simp [h1]
theorem nol_il : ∀ l : List Int, nolDs (l.map D.int)
  | [] => by simp [nolDs]
  | i :: l => by
    rw [List.map_cons]
    unfold nolDs
    exact ⟨by simp [nolD], nol_il l⟩
theorem in_il (x : Int) (l : List Int) : inD (.int x) (l.map .int) = l.contains x := by
  unfold inD
  rw [List.any_map, ← List.any_beq']
  congr 1
theorem fl_il (l : List Int) : (l.map D.int).all flD = true := by
  rw [List.all_map, List.all_eq_true]
  exact fun _ _ => rfl
theorem r_greatest_cuts {K : PySem.W.Frag} {c : Cls} {ds Q Ex} (h : sp_greatest_cuts c ds Q Ex) : rd_greatest_cuts K c (fin Q) (start3 6 ds) fun _ => Ex := by
  obtain ⟨S, n, bs, rfl, hl, hn, nS, hg, h⟩ := h
  have s1 := sl1
  refine ⟨by show (1 : Nat) ≤ sizeLine; decide, ?_⟩
  refine ⟨S, n, bs, rfl, hl, hn, ?_⟩
  show LoopW (zipD (bs.map bdD) ((List.range bs.length).map fun k => ilD (rk (backS S n) bs.reverse (bs.length - (k + 1))))) _ _ _ _ _
  rw [bl_rng, zip_rg]
  refine ⟨fun k Γ => ∃ x y z, Γ = [.pu (ilD S), .pu (blD bs), .ow ((List.range (k + 1)).map fun j => .int (fk S n bs j)), x, y, z], ⟨_, _, _, rfl⟩, ?_, ?_⟩
  · rintro k d _ hk ⟨x, y, z, rfl⟩
    have hk' : k < bs.length := by
      have := (List.getElem?_eq_some_iff.mp hk).1
      rwa [List.length_map, List.length_range] at this
    rw [List.getElem?_map, List.getElem?_range hk'] at hk
    cases hk
    refine ⟨rfl, rfl, ?_⟩
    show compR _ (S.map D.int) _
    refine compR_filter D.int (fun e => wiB (bs.getD k (0, 0)) (e - fk S n bs k)) (fun e he P hp => ⟨_, ixm1, e - fk S n bs k, bs.getD k (0, 0), rfl, ?_⟩) ?_
    · show if wiB (bs.getD k (0, 0)) (e - fk S n bs k) = true then P [.int e] else P []
      split
      · rename_i q; rw [if_pos q] at hp; exact hp
      · rename_i q; rw [if_neg q] at hp; exact hp
    refine ⟨nol_il _, ⟨_, rfl⟩, ?_⟩
    show compR _ ((S.filter fun e => wiB (bs.getD k (0, 0)) (e - fk S n bs k)).map D.int) _
    refine compR_filter D.int (fun e => (rk (backS S n) bs.reverse (bs.length - (k + 1))).contains (n - e)) (fun e he P hp => ⟨_, hn, rfl, fl_il _, ?_⟩) ?_
    · show if inD (.int (n - e)) ((rk (backS S n) bs.reverse (bs.length - (k + 1))).map .int) = true then P [.int e] else P []
      rw [in_il]
      split
      · rename_i q; rw [if_pos q] at hp; exact hp
      · rename_i q; rw [if_neg q] at hp; exact hp
    obtain ⟨m1, m2⟩ := fk_max nS hg hk'
    have mm : ∀ e, e ∈ ((S.filter fun e => wiB (bs.getD k (0, 0)) (e - fk S n bs k)).filter fun e => (rk (backS S n) bs.reverse (bs.length - (k + 1))).contains (n - e)) ↔ e ∈ cand S n bs k (fk S n bs k) := fun e => by
      rw [List.mem_filter, List.mem_filter, mem_cand, List.contains_iff_mem, rk_back, and_assoc]
    refine ⟨_, fk S n bs (k + 1), intsD_ints _, (mm _).mpr m1, fun i hi => m2 i ((mm i).mp hi), by rw [List.length_map, List.length_range]; omega, ?_⟩
    show ∃ x y z, _ = [Slot.pu (ilD S), .pu (blD bs), .ow ((List.range (k + 1 + 1)).map fun j => D.int (fk S n bs j)), x, y, z]
    rw [List.range_succ (n := k + 1), List.map_append]
    exact ⟨_, _, _, rfl⟩
  · rintro _ ⟨x, y, z, rfl⟩
    rw [List.length_map, List.length_range]
    show Q (.lst (cutD ((List.range (bs.length + 1)).map _) (some 1) none))
    rw [cut1, rng_drop]
    have e : (List.range bs.length).map (fun i => D.int (fk S n bs (i + 1))) = ((List.range bs.length).map fun k => fk S n bs (k + 1)).map .int := by rw [List.map_map]; rfl
    rw [e]
    exact h

theorem ends0 (qs : List Rat) : (0 : Int) ∈ endsI qs := mem_endsI.mpr List.mem_cons_self
theorem ends_is (qs : List Rat) : Last (endsI qs) qs.length ∧ (qs.length : Int) ∈ endsI qs := by
  obtain ⟨e1, e2⟩ := ends_last (fal qs)
  rw [fal_len] at e1
  have hlt : (endsL (fal qs)).length - 1 < (endsL (fal qs)).length := by omega
  rw [getD_of hlt] at e1
  refine ⟨?_, ?_⟩
  · unfold Last atI endsI
    have e : ixN (((endsL (fal qs)).map Int.ofNat).map D.int).length (-1) = some ((endsL (fal qs)).length - 1) := by
      unfold ixN
      rw [List.length_map, List.length_map, if_neg (by decide), if_pos (by omega)]
      congr 1
      omega
    rw [e]
    show (((endsL (fal qs)).map Int.ofNat).map D.int)[(endsL (fal qs)).length - 1]? = _
    rw [List.getElem?_map, List.getElem?_map, List.getElem?_eq_getElem hlt, e1]
    rfl
  · unfold endsI
    rw [List.mem_map]
    exact ⟨qs.length, by rw [← e1]; exact List.getElem_mem hlt, rfl⟩
theorem good_is (qs : List Rat) (bs : List Bd) : (rk (endsI qs) bs bs.length).contains (qs.length : Int) = goodB qs bs := by
  unfold goodB
  have := barred_iff (bs := bs) (ends0 qs) (ends_is qs).2
  rw [Bool.eq_iff_iff, List.contains_iff_mem, List.contains_iff_mem]
  exact this
theorem r_cuts {K : PySem.W.Frag} {c : Cls} {ds Q Ex} (h : sp_cuts c ds Q Ex) : rd_cuts K c (fin Q) (start3 4 ds) fun _ => Ex := by
  obtain ⟨qs, bs, rfl, hl, hz, hb, h1, h2⟩ := h
  refine ⟨qs, rfl, hl, hz, endsI qs, bs, rfl, hb, ?_⟩
  show ∃ d, atI ((List.range (bs.length + 1)).map fun i => ilD (rk (endsI qs) bs i)) (-1) = some d ∧ _
  refine ⟨_, ixm1, rfl, fl_il _, ?_⟩
  show if (!inD (.int (((qs.map qD).length : Nat) : Int)) ((rk (endsI qs) bs bs.length).map .int)) = true then _ else _
  rw [List.length_map, in_il, good_is]
  by_cases g : goodB qs bs = true
  · rw [if_neg (by rw [g]; decide)]
    obtain ⟨k1, k2⟩ := ends_is qs
    exact ⟨endsI qs, qs.length, bs, rfl, hb, k1, k2, List.contains_iff_mem.mp g, h1 g⟩
  · have g' : goodB qs bs = false := by simpa using g
    rw [if_pos (by rw [g']; rfl)]
    refine ⟨by show (1 : Nat) ≤ sizeLine; decide, (List.range (bs.length + 1)).map fun i => rk (endsI qs) bs i, by rw [List.map_map]; rfl, h2 g'⟩
structure ClsB (K : PySem.W.Frag) (c : Cls) : Prop where
  ok : ExcK K c.Barred
  okG : ExcG K c.Barred
  okV : VE K c.Barred
  f1 : excSub K c.Barred c.HallError = true
  f2 : excSub K c.Barred c.Barred = true
  f3 : excSub K c.Barred c.NoScale = false
  f4 : excSub K c.Barred c.Open = false
theorem r_law_told {K : PySem.W.Frag} {c : Cls} {ds Q Ex} (F : ClsB K c) (h : sp_law_told c ds Q Ex) : rd_law_told K c (fin Q) (start3 4 ds) fun _ => Ex := by
  obtain ⟨qs, bs, rfl, hl, hz, hb, h⟩ := h
  unfold toldD at h
  refine ⟨qs, bs, rfl, hl, hz, hb, fun g => ?_, fun g => ?_⟩
  · rw [if_pos g] at h
    exact h
  · rw [if_neg (by rw [g]; decide)] at h
    refine ⟨_, rfl, F.ok, F.f1, ⟨F.ok, F.okG⟩, ?_⟩
    rw [F.f2]
    refine ⟨⟨F.ok, F.okG, F.okV⟩, ⟨F.ok, F.okG⟩, ?_⟩
    simp only [List.any_cons, List.any_nil, F.f3, F.f4, Bool.or_false, Bool.not_false]
    exact h
theorem wi_if {b : Bd} {x : Int} {R : Bool → Prop} (h : R (wiB b x)) : if decide (b.1 ≤ x) = true then R (decide (x ≤ b.2)) else R false := by
  unfold wiB at h
  by_cases q : b.1 ≤ x
  · rw [if_pos (by simpa using q)]
    simpa [q] using h
  · rw [if_neg (by simpa using q)]
    simpa [q] using h
theorem deq_nilI (a : List Int) : deq (.lst (a.map D.int)) (.lst []) = decide (a = []) := by
  cases a <;> simp [deq, deqs]
theorem filter_any {α : Type} (l : List α) (p : α → Bool) : (!decide (l.filter p = [])) = l.any p := by
  rw [Bool.eq_iff_iff, List.any_eq_true]
  simp only [Bool.not_eq_true', decide_eq_false_iff_not, List.filter_eq_nil_iff]
  constructor
  · intro h
    exact Classical.byContradiction fun z => h fun a ha q => z ⟨a, ha, q⟩
  · rintro ⟨a, ha, q⟩ h
    exact h a ha q
theorem r_law_leading {K : PySem.W.Frag} {c : Cls} {ds Q Ex} (h : sp_law_leading c ds Q Ex) : rd_law_leading K c (fin Q) (start3 6 ds) fun _ => Ex := by
  obtain ⟨S, n, bs, rfl, hl, hn, h⟩ := h
  have s1 := sl1
  refine ⟨_, hn, by show (1 : Nat) ≤ sizeLine; decide, by show (1 : Nat) ≤ sizeLine; decide, ?_⟩
  show LoopW (bs.map bdD).reverse _ _ _ _ _
  rw [bl_rev]
  refine ⟨fun i Γ => ∃ x y z, Γ = [.pu (ilD S), .pu (blD bs), .ow ((List.range (i + 1)).map fun j => ilD (gk S n bs.reverse j)), x, y, z], ⟨_, _, _, rfl⟩, ?_, ?_⟩
  · rintro i d _ hi ⟨x, y, z, rfl⟩
    have hi' : i < bs.reverse.length := by
      have := (List.getElem?_eq_some_iff.mp hi).1
      rwa [List.length_map] at this
    rw [List.getElem?_map, List.getElem?_eq_getElem hi'] at hi
    cases hi
    have eb : bs.reverse.getD i (0, 0) = bs.reverse[i] := by rw [List.getD_eq_getElem?_getD, List.getElem?_eq_getElem hi']; rfl
    rw [← eb]
    obtain ⟨b, hb⟩ : ∃ b, b = bs.reverse.getD i (0, 0) := ⟨_, rfl⟩
    rw [← hb]
    refine ⟨rfl, rfl, ⟨_, rfl⟩, _, ixm1, ⟨_, rfl⟩, ?_⟩
    show compR _ (S.map D.int) _
    refine compR_filter D.int (fun e => (gk S n bs.reverse i).any fun one => wiB b (one - e)) (fun e he P hp => ?_) ?_
    · show compR _ ((gk S n bs.reverse i).map D.int) _
      refine compR_filter D.int (fun one => wiB b (one - e)) (fun one ho P' hp' => ?_) ?_
      · exact wi_if (b := b) (x := one - e) (R := fun k => if k = true then P' [.int one] else P' []) hp'
      · refine ⟨by show (0 : Nat) ≤ sizeLine; decide, cmp_nil _, ?_⟩
        rw [deq_nilI, filter_any]
        exact hp
    · refine ⟨by rw [List.length_map, List.length_range]; rw [List.length_reverse] at hi'; omega, ?_⟩
      show ∃ x y z, _ = [Slot.pu (ilD S), .pu (blD bs), .ow ((List.range (i + 1 + 1)).map fun j => ilD (gk S n bs.reverse j)), x, y, z]
      rw [List.range_succ (n := i + 1), List.map_append]
      subst hb
      exact ⟨_, _, _, rfl⟩
  · rintro _ ⟨x, y, z, rfl⟩
    rw [List.length_map, List.length_reverse]
    show Q (.lst ((List.range (bs.length + 1)).map _).reverse)
    rw [rng_rev]
    exact h

theorem cmp_il {n : Nat} (a b : List Int) : Cmp (n + 1) (ilD a) (ilD b) := by
  unfold ilD
  simp only [Cmp]
  intro i x y h1 h2
  rw [List.getElem?_map] at h1 h2
  cases q1 : a[i]? with
  | none => rw [q1] at h1; cases h1
  | some u =>
    cases q2 : b[i]? with
    | none => rw [q2] at h2; cases h2
    | some v =>
      rw [q1] at h1; rw [q2] at h2
      cases h1; cases h2
      cases n <;> simp [Cmp]
theorem at_rng {n : Nat} {f : Nat → D} {i : Nat} (h : i < n) : atI ((List.range n).map f) (i : Int) = some (f i) := atI_nat (by rw [List.getElem?_map, List.getElem?_range h]; rfl)
theorem r_law_greatest {K : PySem.W.Frag} {c : Cls} {ds Q Ex} (h : sp_law_greatest c ds Q Ex) : rd_law_greatest K c (fin Q) (start3 9 ds) fun _ => Ex := by
  obtain ⟨S, n, bs, rfl, hl, hn, nS, hg, h⟩ := h
  have s1 := sl1
  have et : ((List.range bs.length).map fun k => fk S n bs (k + 1)).map D.int = (List.range bs.length).map fun k => D.int (fk S n bs (k + 1)) := by rw [List.map_map]; rfl
  have ebl : blD bs = .lst ((List.range bs.length).map fun k => bdD (bs.getD k (0, 0))) := by unfold blD; rw [bl_rng]
  unfold ilD
  rw [et, ebl]
  show ((-(2 ^ 62) : Int) ≤ ((((List.range bs.length).map fun k => bdD (bs.getD k (0, 0))).length : Nat) : Int) ∧ _) ∧ RngW 0 (Int.toNat ((((List.range bs.length).map fun k => bdD (bs.getD k (0, 0))).length : Nat) : Int)) _ _ _ _ _
  rw [List.length_map, List.length_range, Int.toNat_natCast]
  refine ⟨⟨by omega, by omega⟩, fun k Γ => ∃ v w x y, Γ = [.pu (.lst ((List.range bs.length).map fun k => D.int (fk S n bs (k + 1)))), .pu (ilD S), .pu (.lst ((List.range bs.length).map fun k => bdD (bs.getD k (0, 0)))), .pu (.lst ((List.range (bs.length + 1)).map fun j => ilD (gk S n bs.reverse (bs.length - j)))), .pu (.int (fk S n bs k)), v, w, x, y], ⟨_, _, _, _, rfl⟩, ?_, ?_⟩
  · rintro k _ hk ⟨v, w, x, y, rfl⟩
    rw [Int.zero_add]
    obtain ⟨b, hb⟩ : ∃ b, b = bs.getD k (0, 0) := ⟨_, rfl⟩
    refine ⟨_, at_rng hk, rfl, rfl, ?_⟩
    show ∃ d, atI ((List.range (bs.length + 1)).map _) ((k : Int) + 1) = some d ∧ _
    refine ⟨_, at_rng (i := k + 1) (by omega), ?_⟩
    rw [← hb]
    show compR _ ((gk S n bs.reverse (bs.length - (k + 1))).map D.int) _
    refine compR_filter D.int (fun e => wiB b (e - fk S n bs k)) (fun e he P hp => ?_) ?_
    · exact wi_if (b := b) (x := e - fk S n bs k) (R := fun z => if z = true then P [.int e] else P []) hp
    have mm : ∀ e, e ∈ ((gk S n bs.reverse (bs.length - (k + 1))).filter fun e => wiB b (e - fk S n bs k)) ↔ e ∈ cand S n bs k (fk S n bs k) := fun e => by
      rw [List.mem_filter, mem_cand, ← hb]
      exact ⟨fun ⟨q1, q2⟩ => ⟨gk_sub nS q1, q2, q1⟩, fun ⟨_, q2, q3⟩ => ⟨q3, q2⟩⟩
    obtain ⟨m1, m2⟩ := fk_max nS hg hk
    have ne : ((gk S n bs.reverse (bs.length - (k + 1))).filter fun e => wiB b (e - fk S n bs k)) ≠ [] := fun z => by
      have := (mm _).mpr m1
      rw [z] at this; cases this
    refine ⟨_, at_rng hk, ?_⟩
    dsimp only
    rw [(isi_int _).2]
    refine ⟨_, at_rng hk, ?_⟩
    dsimp only
    rw [(isi_int _).1]
    refine ⟨by show (0 : Nat) ≤ sizeLine; decide, cmp_nil _, ?_⟩
    rw [deq_nilI, decide_eq_false ne]
    refine ⟨_, at_rng hk, _, fk S n bs (k + 1), intsD_ints _, (mm _).mpr m1, fun i hi => m2 i ((mm i).mp hi), by simp [Cmp], ?_⟩
    rw [deq_int, decide_eq_true rfl]
    exact ⟨_, at_rng hk, _, _, _, _, rfl⟩
  · rintro _ ⟨v, w, x, y, rfl⟩
    rw [fk_end nS hg]
    refine ⟨_, hn, by simp [Cmp], ?_⟩
    rw [deq_int, decide_eq_true rfl]
    exact h

theorem r_law_wide {K : PySem.W.Frag} {c : Cls} {ds Q Ex} (h : sp_law_wide c ds Q Ex) : rd_law_wide K c (fin Q) (start3 7 ds) fun _ => Ex := by
  obtain ⟨ns, rfl, hn, h⟩ := h
  have s1 := sl1
  refine ⟨ns, 7, rfl, hn, by decide, ?_⟩
  generalize cellV ns 7 = cv
  obtain ⟨m, em, hm⟩ := fmod_nat (i := cv.fdiv 2) (n := 7) (by decide)
  obtain ⟨p, ep, hp⟩ := fmod_nat (i := cv.fdiv 14) (n := 44) (by decide)
  have em' : (cv.fdiv 2).fmod 7 = (m : Int) := em
  have ep' : (cv.fdiv 14).fmod 44 = (p : Int) := ep
  refine ⟨⟨by decide, bln9 (by decide)⟩, show (7 : Int) ≠ 0 by decide, ?_⟩
  show sp_law_marks c [.lst (ns.map .int), .int 8, .int (1 + (cv.fdiv 2).fmod 7)] (fun d => rd_law_wide_2 K c (fin Q) [.pu (.lst (ns.map .int)), .pu (.int cv), .pu d, .no, .no, .no, .no] fun _ => Ex) Ex
  rw [em']
  refine ⟨ns, 8, 1 + m, by rw [show (1 : Int) + (m : Int) = ((1 + m : Nat) : Int) by omega]; rfl, hn, by decide, by omega, fun qs hq hz => ?_⟩
  refine ⟨⟨by decide, bln9 (by decide)⟩, Nat.zero_le _, ⟨by decide, bln9 (by decide)⟩, show (44 : Int) ≠ 0 by decide, ?_⟩
  show ((-(2 ^ 62) : Int) ≤ 17 + (cv.fdiv 14).fmod 44 ∧ 17 + (cv.fdiv 14).fmod 44 < 2 ^ 62) ∧ RngW 0 (17 + (cv.fdiv 14).fmod 44).toNat _ _ _ _ _
  rw [ep', show (17 : Int) + (p : Int) = ((17 + p : Nat) : Int) by omega, Int.toNat_natCast]
  refine ⟨⟨by omega, by omega⟩, fun k Γ => ∃ (rs : List Rat) (u : Int) (x y : Slot), Γ = [.pu (.lst (ns.map .int)), .pu (.int cv), .pu (.lst (qs.map qD)), .pu (.int u), .ow (rs.map qD), x, y] ∧ rs.length = k ∧ ∀ q ∈ rs, q ∈ qs, ⟨[], _, _, _, rfl, rfl, fun _ z => by cases z⟩, ?_, ?_⟩
  · rintro k _ hk ⟨rs, u, x, y, rfl, hl, hr⟩
    refine ⟨show (7 : Int) ≠ 0 by decide, show (2 : Int) ≠ 0 by decide, by simp [Cmp], ?_⟩
    have fin2 : ∀ u' w : Int, rd_law_wide_b1_2 K c { fin Q with nx := fun Γ => ∃ (rs : List Rat) (u : Int) (x y : Slot), Γ = [.pu (.lst (ns.map .int)), .pu (.int cv), .pu (.lst (qs.map qD)), .pu (.int u), .ow (rs.map qD), x, y] ∧ rs.length = k + 1 ∧ ∀ q ∈ rs, q ∈ qs, ct := fun Γ => ∃ (rs : List Rat) (u : Int) (x y : Slot), Γ = [.pu (.lst (ns.map .int)), .pu (.int cv), .pu (.lst (qs.map qD)), .pu (.int u), .ow (rs.map qD), x, y] ∧ rs.length = k + 1 ∧ ∀ q ∈ rs, q ∈ qs, bk := fun Γ' => rd_law_wide_5 K c (fin Q) Γ' fun _ => Ex } [.pu (.lst (ns.map .int)), .pu (.int cv), .pu (.lst (qs.map qD)), .pu (.int u'), .ow (rs.map qD), .pu (.int (0 + (k : Int))), .pu (.int w)] fun _ => Ex := by
      intro u' w
      obtain ⟨j, ej, hj⟩ := fmod_nat (i := w) (n := qs.length) (by omega)
      refine ⟨⟨_, rfl⟩, ?_⟩
      show (((qs.map qD).length : Nat) : Int) ≠ 0 ∧ ∃ d, atI (qs.map qD) (w.fmod (((qs.map qD).length : Nat) : Int)) = some d ∧ _
      rw [List.length_map, ej]
      refine ⟨by omega, qD qs[j], atI_nat (by simp [hj]), by rw [List.length_map]; omega, rs ++ [qs[j]], _, _, _, by rw [List.map_append]; rfl, by simp [hl], fun o ho => ?_⟩
      rcases List.mem_append.mp ho with ho | ho
      · exact hr o ho
      · simp only [List.mem_singleton] at ho; subst ho; exact List.getElem_mem hj
    rw [deq_int]
    by_cases e : cv.fmod 2 = 0
    · rw [decide_eq_true e]
      refine ⟨.inr (.inl (bln_le (by decide))), show (2147483647 : Int) ≠ 0 by decide, .inr (.inl (bln_le (by decide))), show (2147483629 : Int) ≠ 0 by decide, ?_⟩
      exact fin2 _ _
    · rw [decide_eq_false e]
      refine ⟨⟨by decide, bln9 (by decide)⟩, ?_⟩
      exact fin2 _ _
  · rintro _ ⟨rs, u, x, y, rfl, hl, hr⟩
    exact h rs (by omega) fun q hq => (hz q (hr q hq)).up (by omega)
theorem bd_app (bs : List Bd) (b : Bd) : bs.map bdD ++ [D.tup [.int b.1, .int b.2]] = (bs ++ [b]).map bdD := by rw [List.map_append]; rfl
theorem r_law_bounds {K : PySem.W.Frag} {c : Cls} {ds Q Ex} (h : sp_law_bounds c ds Q Ex) : rd_law_bounds K c (fin Q) (start3 12 ds) fun _ => Ex := by
  obtain ⟨ns, f, m, rfl, hn, hf, hm, h⟩ := h
  have s1 := sl1
  refine ⟨Nat.zero_le _, ns, f, rfl, hn, by omega, ?_⟩
  generalize cellV ns f = cv
  refine ⟨by show (2 : Nat) ≤ sizeLine; decide, ⟨by decide, bln9 (by decide)⟩, show (3 : Int) ≠ 0 by decide, by simp [Cmp], ?_⟩
  have go : ∀ g : Nat, g ≤ 12 → rd_law_bounds_4 K c (fin Q) [.pu (.lst (ns.map .int)), .pu (.int f), .pu (.int m), .ow [], .pu (.int m), .pu (.int cv), .pu (.int g), .no, .no, .no, .no, .no] fun _ => Ex := by
    intro g hg
    show ((-(2 ^ 62) : Int) ≤ (g : Int) ∧ _) ∧ RngW 0 (Int.toNat (g : Int)) _ _ _ _ _
    rw [Int.toNat_natCast]
    refine ⟨⟨by omega, by omega⟩, fun k Γ => ∃ (bs : List Bd) (l : Int) (v w x y z : Slot), Γ = [.pu (.lst (ns.map .int)), .pu (.int f), .pu (.int m), .ow (bs.map bdD), .pu (.int l), .pu (.int cv), .pu (.int g), v, w, x, y, z] ∧ bs.length = k ∧ 0 ≤ l, ⟨[], m, _, _, _, _, _, rfl, rfl, by omega⟩, ?_, ?_⟩
    · rintro k _ hk ⟨bs, l, v, w, x, y, z, rfl, hl, l0⟩
      obtain ⟨p, ep, hp⟩ := fmod_nat (i := (k : Int)) (n := 5) (by decide)
      have ep' : (k : Int).fmod 5 = (p : Int) := ep
      refine ⟨show (5 : Int) ≠ 0 by decide, ns, f + 1 + p, ?_, hn, by omega, ⟨by decide, bln9 (by decide)⟩, .inl (bln_le (by decide)), _, 4, rfl, by decide, fun xs hx hb => ?_⟩
      · show [D.lst _, D.int ((f : Int) + 1 + (0 + (k : Int)).fmod 5)] = _
        rw [Int.zero_add, ep', show (f : Int) + 1 + (p : Int) = ((f + 1 + p : Nat) : Int) by omega]
      match xs, hx with
      | [x0, x1, x2, x3], _ =>
        have last : ∀ (l' sh le mo : Int), 0 ≤ l' → rd_law_bounds_b1_7 K c { fin Q with nx := fun Γ => ∃ (bs : List Bd) (l : Int) (v w x y z : Slot), Γ = [.pu (.lst (ns.map .int)), .pu (.int f), .pu (.int m), .ow (bs.map bdD), .pu (.int l), .pu (.int cv), .pu (.int g), v, w, x, y, z] ∧ bs.length = k + 1 ∧ 0 ≤ l, ct := fun Γ => ∃ (bs : List Bd) (l : Int) (v w x y z : Slot), Γ = [.pu (.lst (ns.map .int)), .pu (.int f), .pu (.int m), .ow (bs.map bdD), .pu (.int l), .pu (.int cv), .pu (.int g), v, w, x, y, z] ∧ bs.length = k + 1 ∧ 0 ≤ l, bk := fun Γ' => rd_law_bounds_5 K c (fin Q) Γ' fun _ => Ex } [.pu (.lst (ns.map .int)), .pu (.int f), .pu (.int m), .ow (bs.map bdD), .pu (.int l'), .pu (.int cv), .pu (.int g), .pu (.int (0 + (k : Int))), .pu (.lst [.int x0, .int x1, .int x2, .int x3]), .pu (.int sh), .pu (.int le), .pu (.int mo)] fun _ => Ex := by
          intro l' sh le mo h0
          refine ⟨⟨_, rfl⟩, by show (2 : Nat) ≤ sizeLine; decide, by rw [List.length_map]; omega, bs ++ [(le, mo)], l', _, _, _, _, _, by rw [← bd_app]; rfl, by simp [hl], h0⟩
        have third : ∀ (l' sh : Int), 0 ≤ l' - sh → rd_law_bounds_b1_3 K c { fin Q with nx := fun Γ => ∃ (bs : List Bd) (l : Int) (v w x y z : Slot), Γ = [.pu (.lst (ns.map .int)), .pu (.int f), .pu (.int m), .ow (bs.map bdD), .pu (.int l), .pu (.int cv), .pu (.int g), v, w, x, y, z] ∧ bs.length = k + 1 ∧ 0 ≤ l, ct := fun Γ => ∃ (bs : List Bd) (l : Int) (v w x y z : Slot), Γ = [.pu (.lst (ns.map .int)), .pu (.int f), .pu (.int m), .ow (bs.map bdD), .pu (.int l), .pu (.int cv), .pu (.int g), v, w, x, y, z] ∧ bs.length = k + 1 ∧ 0 ≤ l, bk := fun Γ' => rd_law_bounds_5 K c (fin Q) Γ' fun _ => Ex } [.pu (.lst (ns.map .int)), .pu (.int f), .pu (.int m), .ow (bs.map bdD), .pu (.int l'), .pu (.int cv), .pu (.int g), .pu (.int (0 + (k : Int))), .pu (.lst [.int x0, .int x1, .int x2, .int x3]), .pu (.int sh), y, z] fun _ => Ex := by
          intro l' sh h0
          refine ⟨_, atI_nat (j := 1) rfl, show (3 : Int) ≠ 0 by decide, _, atI_nat (j := 2) rfl, show (3 : Int) ≠ 0 by decide, _, atI_nat (j := 3) rfl, show (8 : Int) ≠ 0 by decide, by simp [Cmp], .inr (.inl (bln_le (by decide))), _, atI_nat (j := 3) rfl, show (8 : Int) ≠ 0 by decide, by simp [Cmp], ?_⟩
          rw [deq_int (x3.fmod 8) 2]
          by_cases e : x3.fmod 8 = 2
          · rw [decide_eq_true e]
            refine ⟨⟨by decide, by decide, by decide⟩, show (10 : Int) ^ (59 : Int).toNat ≠ 0 by decide, ?_⟩
            exact last _ _ _ _ h0
          · rw [decide_eq_false e]
            exact last _ _ _ _ h0
        have f1 := lfr (i := x0) (m := l + 1) (by omega)
        refine ⟨_, atI_nat (j := 0) rfl, show l + 1 ≠ 0 by omega, by simp [Cmp], ?_⟩
        rw [deq_int]
        by_cases e : 0 + (k : Int) = (g : Int) - 1
        · rw [decide_eq_true e]
          exact third l l (by omega)
        · rw [decide_eq_false e]
          exact third l (x0.fmod (l + 1)) (by omega)
    · rintro _ ⟨bs, l, v, w, x, y, z, rfl, hl, l0⟩
      exact h bs (by omega)
  rw [deq_int]
  have go' : ∀ q : Nat, 0 < q → q ≤ 12 → rd_law_bounds_4 K c (fin Q) [.pu (.lst (ns.map .int)), .pu (.int f), .pu (.int m), .ow [], .pu (.int m), .pu (.int cv), .pu (.int (1 + cv.fmod q)), .no, .no, .no, .no, .no] fun _ => Ex := by
    intro q q0 hq
    obtain ⟨p, ep, hp⟩ := fmod_nat (i := cv) q0
    rw [ep, show (1 : Int) + (p : Int) = ((1 + p : Nat) : Int) by omega]
    exact go _ (by omega)
  by_cases e : (cv.fdiv 60).fmod 3 = 1
  · rw [decide_eq_true e]
    exact ⟨_, atI_nat (j := 1) rfl, show (12 : Int) ≠ 0 by decide, go' 12 (by decide) (by decide)⟩
  · rw [decide_eq_false e]
    exact ⟨_, atI_nat (j := 0) rfl, show (5 : Int) ≠ 0 by decide, go' 5 (by decide) (by decide)⟩

theorem cmp_bd {n : Nat} (a b : Bd) : Cmp (n + 1) (bdD a) (bdD b) := by
  unfold bdD
  simp only [Cmp]
  intro i x y h1 h2
  match i with
  | 0 => simp at h1 h2; subst h1 h2; cases n <;> simp [Cmp]
  | 1 => simp at h1 h2; subst h1 h2; cases n <;> simp [Cmp]
  | i + 2 => simp at h1
theorem cmp_lm {α : Type} {n : Nat} (g : α → D) (hg : ∀ a b, Cmp n (g a) (g b)) (a b : List α) : Cmp (n + 1) (.lst (a.map g)) (.lst (b.map g)) := by
  simp only [Cmp]
  intro i x y h1 h2
  rw [List.getElem?_map] at h1 h2
  cases q1 : a[i]? with
  | none => rw [q1] at h1; cases h1
  | some u =>
    cases q2 : b[i]? with
    | none => rw [q2] at h2; cases h2
    | some v =>
      rw [q1] at h1; rw [q2] at h2
      cases h1; cases h2
      exact hg u v
theorem cmp_2 {n : Nat} {a b a' b' : D} (h1 : Cmp n a a') (h2 : Cmp n b b') : Cmp (n + 1) (.lst [a, b]) (.lst [a', b']) := by
  simp only [Cmp]
  intro i x y e1 e2
  match i with
  | 0 => simp at e1 e2; subst e1 e2; exact h1
  | 1 => simp at e1 e2; subst e1 e2; exact h2
  | i + 2 => simp at e1
theorem fal_rev (qs : List Rat) : fal qs.reverse = fal qs := by unfold fal; rw [srt_eq (List.reverse_perm qs)]
theorem told_rev (qs : List Rat) (bs : List Bd) : toldD qs.reverse bs = toldD qs bs := by
  have e : endsI qs.reverse = endsI qs := by unfold endsI; rw [fal_rev]
  unfold toldD goodB cutsI
  rw [e, List.length_reverse]
theorem isi_lst (xs : List D) : isiB (.lst xs) "list" = some true := by unfold isiB tyD; show PySem.W.kitOne [] _ _ = _; decide +kernel
theorem r_law {K : PySem.W.Frag} {c : Cls} {ds Q Ex} (h : sp_law c ds Q Ex) : rd_law K c (fin Q) (start3 9 ds) fun _ => Ex := by
  obtain ⟨ns, rfl, hn, h⟩ := h
  have s1 := sl1
  refine ⟨ns, 0, rfl, hn, by decide, _, 3, rfl, by decide, fun xs hx hb => ?_⟩
  match xs, hx with
  | [x0, x1, x2], _ =>
  have behind : ∀ qs : List Rat, qs.length ≤ 60 → (∀ q ∈ qs, Sz 400 q) → ∀ many : D, rd_law_4 K c (fin Q) [.pu (.lst (ns.map .int)), .pu (.lst [.int x0, .int x1, .int x2]), .pu many, .pu (.lst (qs.map qD)), .no, .no, .no, .no, .no] fun _ => Ex := by
    intro qs hq hz many
    have hz4 : ∀ q ∈ qs, Sz 4000 q := fun q hq => (hz q hq).up (by decide)
    show sp_law_bounds c [.lst (ns.map .int), .int 1, .int (((qs.map qD).length : Nat) : Int)] (fun d => rd_law_5 K c (fin Q) [.pu (.lst (ns.map .int)), .pu (.lst [.int x0, .int x1, .int x2]), .pu many, .pu (.lst (qs.map qD)), .pu d, .no, .no, .no, .no] fun _ => Ex) Ex
    rw [List.length_map]
    refine ⟨ns, 1, qs.length, rfl, hn, by decide, hq, fun bs hb => ?_⟩
    refine ⟨by show (2 : Nat) ≤ sizeLine; decide, ?_⟩
    refine ⟨_, atI_nat (j := 0) rfl, _, atI_nat (j := 1) rfl, qs, bs, rfl, by omega, hz4, by omega, ?_⟩
    refine ⟨qs, rfl, by omega, hz4, ?_⟩
    obtain ⟨k1, k2⟩ := ends_is qs
    have ee : (endsL (fal qs)).map intD = (endsI qs).map .int := by unfold endsI; rw [List.map_map]; rfl
    rw [ee]
    refine ⟨endsI qs, qs.length, bs, rfl, by omega, k1, ?_⟩
    refine ⟨by show (2 : Nat) ≤ sizeLine; decide, cmp_2 (cmp_qs _ _) (cmp_lm bdD (fun a b => cmp_bd (n := 17) a b) _ _), ?_⟩
    have ed : deq (.lst [.lst (qs.map qD), .lst (bs.map bdD)]) (.lst [.lst (qs.map qD), blD bs]) = true := deq_refl _
    rw [ed]
    have e0 : bs.length - 0 = bs.length := Nat.sub_zero _
    by_cases g : goodB qs bs = true
    · have et : toldD qs bs = ilD (cutsI qs bs) := by unfold toldD; rw [if_pos g]
      rw [et]
      show ∃ d, atI ((List.range (bs.length + 1)).map fun j => ilD (gk (endsI qs) qs.length bs.reverse (bs.length - j))) 0 = some d ∧ _
      refine ⟨_, at_rng (i := 0) (by omega), rfl, fl_il _, ?_⟩
      rw [in_il, e0, show (gk (endsI qs) qs.length bs.reverse bs.length).contains 0 = true from g]
      have e1 : (!deq (.int (((cutsI qs bs).map D.int).length : Nat)) (.int ((bs.map bdD).length : Nat))) = false := by
        unfold cutsI
        rw [List.length_map, List.length_map, List.length_map, List.length_range, deq_int, decide_eq_true rfl]; rfl
      change rd_law_11 K c (fin Q) [.pu (.lst (ns.map .int)), .pu (.lst [.int x0, .int x1, .int x2]), .pu many, .pu (.lst (qs.map qD)), .pu (.lst (bs.map bdD)), .pu (.lst [.lst (qs.map qD), .lst (bs.map bdD)]), .pu (.lst ((cutsI qs bs).map .int)), .pu (.lst ((endsI qs).map .int)), .pu (.lst ((List.range (bs.length + 1)).map fun j => ilD (gk (endsI qs) qs.length bs.reverse (bs.length - j))))] fun _ => Ex
      unfold rd_law_11
      dsimp only [cSeq, cNext, cC, cV, cB, cT, cAnd, cOr, cNot, cAndV, cOrV, cNotV, cIf, cNil, cCons, cTup, fLst, cOf, cDrop, cRet, cRetN, cIfS, cSet, cSetF, hName, hNil, hCons, hTup, cAsg, cPar, cCall, cU, cCB, gNeg, gAdd, gSub, gMul, gDiv, gMod, gPow, gLt, gLe, gGt, gGe, gIs, gIsN, gEq, gNe, gIx, wI, wI0, u_abs, u_len, u_max, u_min, cRaise, cTry, cTryA, cIsi, cIsx, List.length, List.set_cons_zero, List.set_cons_succ, List.getElem?_cons_zero, List.getElem?_cons_succ, isNon, fCB, n_list, u_tuple, oNo, oIs, fSl, fRev, cPeek, cPeekT, cIxO, cOw, w_append, w_insert, fCat, gIn, cChain, cCallN, u_int, n_sorted, i_enumerate, cIsv, cIst, iL, cForI, frzG, frzS, cYes, List.map, List.append, List.cons_append, List.nil_append]
      simp only [isi_lst, Bool.not_true, Bool.false_eq_true, if_false]
      refine ⟨by simp [Cmp], ?_⟩
      rw [e1]
      simp only [Bool.false_eq_true, if_false]
      refine ⟨endsI qs, qs.length, bs, rfl, by omega, k1, k2, List.contains_iff_mem.mp g, ?_⟩
      simp only [Bool.not_true, Bool.false_eq_true, if_false]
      show sp_law_told c [.lst (qs.map qD).reverse, blD bs] (fun d => gEq d (ilD (cutsI qs bs)) fun d => Q d) Ex
      rw [← List.map_reverse]
      refine ⟨qs.reverse, bs, rfl, by rw [List.length_reverse]; omega, fun q hq => hz4 q (List.mem_reverse.mp hq), by omega, ?_⟩
      rw [told_rev, et]
      refine ⟨cmp_il _ _, ?_⟩
      rw [deq_refl]
      exact h
    · have g' : goodB qs bs = false := by simpa using g
      have et : toldD qs bs = .bl false := by unfold toldD; rw [if_neg g]
      rw [et]
      show ∃ d, atI ((List.range (bs.length + 1)).map fun j => ilD (gk (endsI qs) qs.length bs.reverse (bs.length - j))) 0 = some d ∧ _
      refine ⟨_, at_rng (i := 0) (by omega), rfl, fl_il _, ?_⟩
      rw [in_il, e0, show (gk (endsI qs) qs.length bs.reverse bs.length).contains 0 = false from g']
      exact h
  have go : ∀ w : Nat, w ≤ 16 → rd_law_2 K c (fin Q) [.pu (.lst (ns.map .int)), .pu (.lst [.int x0, .int x1, .int x2]), .pu (.int w), .no, .no, .no, .no, .no, .no] fun _ => Ex := by
    intro w hw
    refine ⟨ns, 8, w, rfl, hn, by decide, by omega, fun qs hq hz => ?_⟩
    refine ⟨_, atI_nat (j := 2) rfl, show (4 : Int) ≠ 0 by decide, by simp [Cmp], ?_⟩
    rw [deq_int]
    by_cases e : x2.fmod 4 = 1
    · rw [decide_eq_true e]
      exact ⟨ns, rfl, hn, fun qs' hq' hz' => behind qs' hq' hz' _⟩
    · rw [decide_eq_false e]
      exact behind qs (by omega) (fun q hq => (hz q hq).up (by omega)) _
  have go2 : ∀ (M : Int) (b : Bool), 0 ≤ M → M ≤ 16 → rd_law_2 K c (fin Q) [.pu (.lst (ns.map .int)), .pu (.lst [.int x0, .int x1, .int x2]), .pu (.int (M * (if b = true then 1 else 0))), .no, .no, .no, .no, .no, .no] fun _ => Ex := by
    intro M b h1 h2
    cases b with
    | true =>
      rw [if_pos rfl, Int.mul_one, show M = ((M.toNat : Nat) : Int) by omega]
      exact go _ (by omega)
    | false =>
      rw [if_neg (by decide), Int.mul_zero]
      exact go 0 (by decide)
  have hp := lfr (i := x0) (m := 12) (by decide)
  refine ⟨_, atI_nat (j := 0) rfl, show (12 : Int) ≠ 0 by decide, _, atI_nat (j := 1) rfl, show (9 : Int) ≠ 0 by decide, by simp [Cmp], .inr (.inl (by split <;> exact bln_le (by decide))), ?_⟩
  refine go2 _ _ ?_ ?_
  · rw [List.length_map]
    repeat split
    all_goals omega
  · rw [List.length_map]
    repeat split
    all_goals omega
end L3


local macro_rules | `(tactic| trivial) => `(tactic| first | exact Or.inl rfl | exact Or.inr (Or.inl rfl) | exact Or.inr (Or.inr rfl) | exact Or.inr rfl)
namespace Lw
open PySem PySem.Spec PyProof.Rows L2 L3
def top (i : Nat) : Stmt := PySem.Challenge.pw_hall_k62_whole_cuts.main.body.getD i (.Pass ⟨0, 0, 0, 0⟩)
section
variable {P : Program} {w : World} {K : PySem.W.Frag} {mg : Str → Option Value} {base : Heap}
abbrev s_law_stream : Stmt := top 18
theorem sc_law_stream : FnScope ["_law_cell_here", "_law_many", "_law_xs", "_law_number", "_law_k"] ["_law_cell_here", "_law_many"] (defScope s_law_stream) := ⟨rfl, rfl, rfl, by decide +kernel, rfl, by decide +kernel, by decide +kernel⟩
theorem d_law_stream {f : Addr} {cdv : Value} {A : Around} {outer : List Env} {s : Shared} {H : Hp} {E : XK} {F0 : Hp} (c : Cls) (hr : Room 0 (A.deeper (envOfC "_law_stream" (defScope s_law_stream) s.heap.objs.size f cdv))) (b_range : mg "range" = none) : QSs (cxOf (CX1 P w) P w K mg base ["_law_cell_here", "_law_many", "_law_xs", "_law_number", "_law_k"] "_law_stream" (defScope s_law_stream) f cdv A outer s H E) F0 H (defBody s_law_stream) (rd_law_stream K c ) := by
  have nd := sc_law_stream.nd
  have hu : (A.deeper (envOfC "_law_stream" (defScope s_law_stream) s.heap.objs.size f cdv)).units + 21 < cLine := by have := hr.units; omega
  exact (qss_cons (by exact (qs_setF (i := 2) nd rfl (by trivial) (by exact (qf_lst qa_nil))))
 (by exact (qss_cons (by exact (qs_set (i := 3) nd rfl (by trivial) (by exact (qe_bin (fun _ => o_mod) (qe_var (i := 0) rfl (by trivial)) qe_int))))
 (by exact (qss_cons (by exact (qs_rng1 rfl rfl b_range (by exact (qa_cons (qe_var (i := 1) rfl (by trivial)) qa_nil)) (by exact (qg_name (i := 4) nd rfl (by trivial)))
 (by exact (qss_cons (by exact (qs_set (i := 3) nd rfl (by trivial) (by exact (qe_bin (fun _ => o_mod) (qe_bin (fun _ => o_add) (qe_bin (fun _ => o_mul) (qe_var (i := 3) rfl (by trivial)) qe_int) qe_int) qe_int))))
 (by exact (qss_one (by exact (qs_own (i := 2) (fun _ => ow_append) PySem.F.slot_list_append PySem.F.type_list_append rfl (by trivial) (by exact (qa_cons (qe_var (i := 3) rfl (by trivial)) qa_nil))))))))))
 (by exact (qss_one (by exact (qs_ret (by exact (qe_var (i := 2) rfl (by trivial))))))))))))
theorem fo_law_stream {f : Addr} {fd : FuncData} (c : Cls) (F : Fun K "_law_stream" "_law_stream" s_law_stream f fd) (b_range : mg "range" = none)  : FnOk P w K mg base (CX1 P w) 1 f fd ["_law_cell_here", "_law_many"] (spUp K (sp_law_stream c)) :=
  fn2 F sc_law_stream (fun _ _ _ h => l_law_stream h) fun cdv A outer s H E hr F0 => ⟨rd_law_stream K c , d_law_stream c hr b_range, fun ds Q Ex h => r_law_stream  h⟩
theorem ok_law_stream {f : Addr} {fd : FuncData} (c : Cls) (F : Fun K "_law_stream" "_law_stream" s_law_stream f fd) (hm : mg "_law_stream" = some (.ref f)) (b_range : mg "range" = none)  : Fn2 P w K mg base "_law_stream" 1 ["_law_cell_here", "_law_many"] (sp_law_stream c) :=
  ⟨f, fd, fo_law_stream c F  b_range , hm, F.kp, F.binds fun _ _ _ _ _ _ us hl => match us, hl with | [_, _], _ => rfl⟩
abbrev s_law_low : Stmt := top 19
theorem sc_law_low : FnScope ["_law_top", "_law_bottom", "_law_one", "_law_other"] ["_law_top", "_law_bottom"] (defScope s_law_low) := ⟨rfl, rfl, rfl, by decide +kernel, rfl, by decide +kernel, by decide +kernel⟩
theorem d_law_low {f : Addr} {cdv : Value} {A : Around} {outer : List Env} {s : Shared} {H : Hp} {E : XK} {F0 : Hp} (c : Cls) (hr : Room 0 (A.deeper (envOfC "_law_low" (defScope s_law_low) s.heap.objs.size f cdv))) (b_abs : mg "abs" = none) : QSs (cxOf (CX1 P w) P w K mg base ["_law_top", "_law_bottom", "_law_one", "_law_other"] "_law_low" (defScope s_law_low) f cdv A outer s H E) F0 H (defBody s_law_low) (rd_law_low K c ) := by
  have nd := sc_law_low.nd
  have hu : (A.deeper (envOfC "_law_low" (defScope s_law_low) s.heap.objs.size f cdv)).units + 21 < cLine := by have := hr.units; omega
  exact (qss_cons (by exact (qs_set (i := 2) nd rfl (by trivial) (by exact (qe_callB (fun _ => q_abs) rfl b_abs boot_abs (qa_cons (qe_var (i := 0) rfl (by trivial)) qa_nil)))))
 (by exact (qss_cons (by exact (qs_set (i := 3) nd rfl (by trivial) (by exact (qe_var (i := 1) rfl (by trivial)))))
 (by exact (qss_cons (by exact (qs_while (by exact (qt_cmp (fun _ => o_gt) (qe_var (i := 3) rfl (by trivial)) qe_int (nomark _)))
 (by exact (qss_one (by exact (qs_par (i := 2) (j := 3) rfl nd rfl rfl (by decide) rfl rfl (qa_cons (qe_var (i := 3) rfl (by trivial)) (qa_cons (qe_bin (fun _ => o_mod) (qe_var (i := 2) rfl (by trivial)) (qe_var (i := 3) rfl (by trivial))) qa_nil)) rfl))))))
 (by exact (qss_one (by exact (qs_ret (by exact (qe_tup (qa_cons (qe_bin (fun _ => o_div) (qe_var (i := 0) rfl (by trivial)) (qe_var (i := 2) rfl (by trivial))) (qa_cons (qe_bin (fun _ => o_div) (qe_var (i := 1) rfl (by trivial)) (qe_var (i := 2) rfl (by trivial))) qa_nil)))))))))))))
theorem fo_law_low {f : Addr} {fd : FuncData} (c : Cls) (F : Fun K "_law_low" "_law_low" s_law_low f fd) (b_abs : mg "abs" = none)  : FnOk P w K mg base (CX1 P w) 1 f fd ["_law_top", "_law_bottom"] (spUp K (sp_law_low c)) :=
  fn2 F sc_law_low (fun _ _ _ h => l_law_low h) fun cdv A outer s H E hr F0 => ⟨rd_law_low K c , d_law_low c hr b_abs, fun ds Q Ex h => r_law_low  h⟩
theorem ok_law_low {f : Addr} {fd : FuncData} (c : Cls) (F : Fun K "_law_low" "_law_low" s_law_low f fd) (hm : mg "_law_low" = some (.ref f)) (b_abs : mg "abs" = none)  : Fn2 P w K mg base "_law_low" 1 ["_law_top", "_law_bottom"] (sp_law_low c) :=
  ⟨f, fd, fo_law_low c F  b_abs , hm, F.kp, F.binds fun _ _ _ _ _ _ us hl => match us, hl with | [_, _], _ => rfl⟩
abbrev s_law_fraction : Stmt := top 25
theorem sc_law_fraction : FnScope ["_law_x"] ["_law_x"] (defScope s_law_fraction) := ⟨rfl, rfl, rfl, by decide +kernel, rfl, by decide +kernel, by decide +kernel⟩
theorem d_law_fraction {f : Addr} {cdv : Value} {A : Around} {outer : List Env} {s : Shared} {H : Hp} {E : XK} {F0 : Hp} (c : Cls) (hr : Room 1 (A.deeper (envOfC "_law_fraction" (defScope s_law_fraction) s.heap.objs.size f cdv))) (G_law_low : Fn2 P w K mg base "_law_low" 1 ["_law_top", "_law_bottom"] (sp_law_low c)) : QSs (cxOf (CX1 P w) P w K mg base ["_law_x"] "_law_fraction" (defScope s_law_fraction) f cdv A outer s H E) F0 H (defBody s_law_fraction) (rd_law_fraction K c ) := by
  have nd := sc_law_fraction.nd
  have hu : (A.deeper (envOfC "_law_fraction" (defScope s_law_fraction) s.heap.objs.size f cdv)).units + 21 < cLine := by have := hr.units; omega
  exact (qss_cons (by exact (qs_if (by exact (qt_cmp (fun _ => o_eq hu) (qe_bin (fun _ => o_mod) (qe_var (i := 0) rfl (by trivial)) qe_int) qe_int (nomark _)))
 (by exact (qss_one (by exact (qs_ret (by exact (qe_tup (qa_cons (qe_bin (fun _ => o_mod) (qe_bin (fun _ => o_div) (qe_var (i := 0) rfl (by trivial)) qe_int) qe_int) (qa_cons qe_int qa_nil))))))))
 (by exact qss_nil)))
 (by exact (qss_cons (by exact (qs_if (by exact (qt_cmp (fun _ => o_eq hu) (qe_bin (fun _ => o_mod) (qe_var (i := 0) rfl (by trivial)) qe_int) qe_int (nomark _)))
 (by exact (qss_one (by exact (qs_ret (by exact (qe_callF G_law_low (hr.mono (by decide)) rfl (qa_cons (qe_bin (fun _ => o_sub) (qe_bin (fun _ => o_mod) (qe_bin (fun _ => o_div) (qe_var (i := 0) rfl (by trivial)) qe_int) qe_int) qe_int) (qa_cons (qe_bin (fun _ => o_add) qe_int (qe_bin (fun _ => o_mod) (qe_bin (fun _ => o_div) (qe_var (i := 0) rfl (by trivial)) qe_int) qe_int)) qa_nil))))))))
 (by exact qss_nil)))
 (by exact (qss_one (by exact (qs_ret (by exact (qe_callF G_law_low (hr.mono (by decide)) rfl (qa_cons (qe_bin (fun _ => o_sub) (qe_bin (fun _ => o_mod) (qe_bin (fun _ => o_mul) (qe_bin (fun _ => o_div) (qe_var (i := 0) rfl (by trivial)) qe_int) qe_int) (qe_bin (fun _ => o_pow) qe_int qe_int)) (qe_bin (fun _ => o_pow) qe_int qe_int)) (qa_cons (qe_bin (fun _ => o_add) qe_int (qe_bin (fun _ => o_mod) (qe_bin (fun _ => o_div) (qe_var (i := 0) rfl (by trivial)) qe_int) qe_int)) qa_nil)))))))))))
theorem fo_law_fraction {f : Addr} {fd : FuncData} (c : Cls) (F : Fun K "_law_fraction" "_law_fraction" s_law_fraction f fd) (G_law_low : Fn2 P w K mg base "_law_low" 1 ["_law_top", "_law_bottom"] (sp_law_low c))  : FnOk P w K mg base (CX1 P w) 2 f fd ["_law_x"] (spUp K (sp_law_fraction c)) :=
  fn2 F sc_law_fraction (fun _ _ _ h => l_law_fraction h) fun cdv A outer s H E hr F0 => ⟨rd_law_fraction K c , d_law_fraction c hr G_law_low, fun ds Q Ex h => r_law_fraction  h⟩
theorem ok_law_fraction {f : Addr} {fd : FuncData} (c : Cls) (F : Fun K "_law_fraction" "_law_fraction" s_law_fraction f fd) (hm : mg "_law_fraction" = some (.ref f)) (G_law_low : Fn2 P w K mg base "_law_low" 1 ["_law_top", "_law_bottom"] (sp_law_low c))  : Fn2 P w K mg base "_law_fraction" 2 ["_law_x"] (sp_law_fraction c) :=
  ⟨f, fd, fo_law_fraction c F  G_law_low , hm, F.kp, F.binds fun _ _ _ _ _ _ us hl => match us, hl with | [_], _ => rfl⟩
abbrev s_law_cell : Stmt := top 17
theorem sc_law_cell : FnScope ["_law_script", "_law_k", "_law_number"] ["_law_script", "_law_k"] (defScope s_law_cell) := ⟨rfl, rfl, rfl, by decide +kernel, rfl, by decide +kernel, by decide +kernel⟩
theorem d_law_cell {f : Addr} {cdv : Value} {A : Around} {outer : List Env} {s : Shared} {H : Hp} {E : XK} {F0 : Hp} (c : Cls) (hr : Room 0 (A.deeper (envOfC "_law_cell" (defScope s_law_cell) s.heap.objs.size f cdv))) (b_len : mg "len" = none) : QSs (cxOf (CX1 P w) P w K mg base ["_law_script", "_law_k", "_law_number"] "_law_cell" (defScope s_law_cell) f cdv A outer s H E) F0 H (defBody s_law_cell) (rd_law_cell K c ) := by
  have nd := sc_law_cell.nd
  have hu : (A.deeper (envOfC "_law_cell" (defScope s_law_cell) s.heap.objs.size f cdv)).units + 21 < cLine := by have := hr.units; omega
  exact (qss_cons (by exact (qs_if (by exact (qt_cmp (fun _ => o_lt) (qe_var (i := 1) rfl (by trivial)) (qe_callB (fun _ => q_len) rfl b_len boot_len (qa_cons (qe_var (i := 0) rfl (by trivial)) qa_nil)) (nomark _)))
 (by exact (qss_one (by exact (qs_ret (by exact (qe_ix (qe_var (i := 0) rfl (by trivial)) (qe_var (i := 1) rfl (by trivial)) (fun _ _ => rfl)))))))
 (by exact qss_nil)))
 (by exact (qss_cons (by exact (qs_set (i := 2) nd rfl (by trivial) (by exact (qe_bin (fun _ => o_add) (qe_bin (fun _ => o_mul) (qe_var (i := 1) rfl (by trivial)) qe_int) qe_int))))
 (by exact (qss_cons (by exact (qs_if (by exact (qt_cmp (fun _ => o_gt) (qe_callB (fun _ => q_len) rfl b_len boot_len (qa_cons (qe_var (i := 0) rfl (by trivial)) qa_nil)) qe_int (nomark _)))
 (by exact (qss_one (by exact (qs_set (i := 2) nd rfl (by trivial) (by exact (qe_bin (fun _ => o_mod) (qe_bin (fun _ => o_add) (qe_bin (fun _ => o_mul) (qe_ix (qe_var (i := 0) rfl (by trivial)) (qe_bin (fun _ => o_mod) (qe_bin (fun _ => o_mul) (qe_var (i := 1) rfl (by trivial)) qe_int) (qe_callB (fun _ => q_len) rfl b_len boot_len (qa_cons (qe_var (i := 0) rfl (by trivial)) qa_nil))) (fun _ _ => rfl)) qe_int) (qe_bin (fun _ => o_mul) (qe_var (i := 1) rfl (by trivial)) qe_int)) qe_int))))))
 (by exact qss_nil)))
 (by exact (qss_one (by exact (qs_ret (by exact (qe_bin (fun _ => o_mod) (qe_bin (fun _ => o_mul) (qe_var (i := 2) rfl (by trivial)) (qe_var (i := 2) rfl (by trivial))) qe_int)))))))))))
theorem fo_law_cell {f : Addr} {fd : FuncData} (c : Cls) (F : Fun K "_law_cell" "_law_cell" s_law_cell f fd) (b_len : mg "len" = none)  : FnOk P w K mg base (CX1 P w) 1 f fd ["_law_script", "_law_k"] (spUp K (sp_law_cell c)) :=
  fn2 F sc_law_cell (fun _ _ _ h => l_law_cell h) fun cdv A outer s H E hr F0 => ⟨rd_law_cell K c , d_law_cell c hr b_len, fun ds Q Ex h => r_law_cell  h⟩
theorem ok_law_cell {f : Addr} {fd : FuncData} (c : Cls) (F : Fun K "_law_cell" "_law_cell" s_law_cell f fd) (hm : mg "_law_cell" = some (.ref f)) (b_len : mg "len" = none)  : Fn2 P w K mg base "_law_cell" 1 ["_law_script", "_law_k"] (sp_law_cell c) :=
  ⟨f, fd, fo_law_cell c F  b_len , hm, F.kp, F.binds fun _ _ _ _ _ _ us hl => match us, hl with | [_, _], _ => rfl⟩
abbrev s_law_plus : Stmt := top 20
theorem sc_law_plus : FnScope ["_law_one", "_law_other"] ["_law_one", "_law_other"] (defScope s_law_plus) := ⟨rfl, rfl, rfl, by decide +kernel, rfl, by decide +kernel, by decide +kernel⟩
theorem d_law_plus {f : Addr} {cdv : Value} {A : Around} {outer : List Env} {s : Shared} {H : Hp} {E : XK} {F0 : Hp} (c : Cls) (hr : Room 1 (A.deeper (envOfC "_law_plus" (defScope s_law_plus) s.heap.objs.size f cdv))) (G_law_low : Fn2 P w K mg base "_law_low" 1 ["_law_top", "_law_bottom"] (sp_law_low c)) : QSs (cxOf (CX1 P w) P w K mg base ["_law_one", "_law_other"] "_law_plus" (defScope s_law_plus) f cdv A outer s H E) F0 H (defBody s_law_plus) (rd_law_plus K c ) := by
  have nd := sc_law_plus.nd
  have hu : (A.deeper (envOfC "_law_plus" (defScope s_law_plus) s.heap.objs.size f cdv)).units + 21 < cLine := by have := hr.units; omega
  exact (qss_one (by exact (qs_ret (by exact (qe_callF G_law_low (hr.mono (by decide)) rfl (qa_cons (qe_bin (fun _ => o_add) (qe_bin (fun _ => o_mul) (qe_ix (qe_var (i := 0) rfl (by trivial)) qe_int (fun _ _ => rfl)) (qe_ix (qe_var (i := 1) rfl (by trivial)) qe_int (fun _ _ => rfl))) (qe_bin (fun _ => o_mul) (qe_ix (qe_var (i := 1) rfl (by trivial)) qe_int (fun _ _ => rfl)) (qe_ix (qe_var (i := 0) rfl (by trivial)) qe_int (fun _ _ => rfl)))) (qa_cons (qe_bin (fun _ => o_mul) (qe_ix (qe_var (i := 0) rfl (by trivial)) qe_int (fun _ _ => rfl)) (qe_ix (qe_var (i := 1) rfl (by trivial)) qe_int (fun _ _ => rfl))) qa_nil)))))))
theorem fo_law_plus {f : Addr} {fd : FuncData} (c : Cls) (F : Fun K "_law_plus" "_law_plus" s_law_plus f fd) (G_law_low : Fn2 P w K mg base "_law_low" 1 ["_law_top", "_law_bottom"] (sp_law_low c))  : FnOk P w K mg base (CX1 P w) 2 f fd ["_law_one", "_law_other"] (spUp K (sp_law_plus c)) :=
  fn2 F sc_law_plus (fun _ _ _ h => l_law_plus h) fun cdv A outer s H E hr F0 => ⟨rd_law_plus K c , d_law_plus c hr G_law_low, fun ds Q Ex h => r_law_plus  h⟩
theorem ok_law_plus {f : Addr} {fd : FuncData} (c : Cls) (F : Fun K "_law_plus" "_law_plus" s_law_plus f fd) (hm : mg "_law_plus" = some (.ref f)) (G_law_low : Fn2 P w K mg base "_law_low" 1 ["_law_top", "_law_bottom"] (sp_law_low c))  : Fn2 P w K mg base "_law_plus" 2 ["_law_one", "_law_other"] (sp_law_plus c) :=
  ⟨f, fd, fo_law_plus c F  G_law_low , hm, F.kp, F.binds fun _ _ _ _ _ _ us hl => match us, hl with | [_, _], _ => rfl⟩
abbrev s_law_marks : Stmt := top 26
theorem sc_law_marks : FnScope ["_law_script", "_law_first", "_law_many", "_law_marks_here", "_law_k", "_law_x", "_law_one"] ["_law_script", "_law_first", "_law_many"] (defScope s_law_marks) := ⟨rfl, rfl, rfl, by decide +kernel, rfl, by decide +kernel, by decide +kernel⟩
theorem d_law_marks {f : Addr} {cdv : Value} {A : Around} {outer : List Env} {s : Shared} {H : Hp} {E : XK} {F0 : Hp} (c : Cls) (hr : Room 2 (A.deeper (envOfC "_law_marks" (defScope s_law_marks) s.heap.objs.size f cdv))) (G_law_stream : Fn2 P w K mg base "_law_stream" 1 ["_law_cell_here", "_law_many"] (sp_law_stream c)) (G_law_fraction : Fn2 P w K mg base "_law_fraction" 2 ["_law_x"] (sp_law_fraction c)) (G_law_cell : Fn2 P w K mg base "_law_cell" 1 ["_law_script", "_law_k"] (sp_law_cell c)) (G_law_plus : Fn2 P w K mg base "_law_plus" 2 ["_law_one", "_law_other"] (sp_law_plus c)) (b_range : mg "range" = none) (b_len : mg "len" = none) : QSs (cxOf (CX1 P w) P w K mg base ["_law_script", "_law_first", "_law_many", "_law_marks_here", "_law_k", "_law_x", "_law_one"] "_law_marks" (defScope s_law_marks) f cdv A outer s H E) F0 H (defBody s_law_marks) (rd_law_marks K c ) := by
  have nd := sc_law_marks.nd
  have hu : (A.deeper (envOfC "_law_marks" (defScope s_law_marks) s.heap.objs.size f cdv)).units + 21 < cLine := by have := hr.units; omega
  exact (qss_cons (by exact (qs_setF (i := 3) nd rfl (by trivial) (by exact (qf_lst qa_nil))))
 (by exact (qss_cons (by exact (qs_rng1 rfl rfl b_range (by exact (qa_cons (qe_var (i := 2) rfl (by trivial)) qa_nil)) (by exact (qg_name (i := 4) nd rfl (by trivial)))
 (by exact (qss_cons (by exact (qs_set (i := 5) nd rfl (by trivial) (by exact (qe_callF G_law_stream (hr.mono (by decide)) rfl (qa_cons (qe_callF G_law_cell (hr.mono (by decide)) rfl (qa_cons (qe_var (i := 0) rfl (by trivial)) (qa_cons (qe_bin (fun _ => o_add) (qe_var (i := 1) rfl (by trivial)) (qe_var (i := 4) rfl (by trivial))) qa_nil))) (qa_cons qe_int qa_nil))))))
 (by exact (qss_cons (by exact (qs_set (i := 6) nd rfl (by trivial) (by exact (qe_callF G_law_fraction (hr.mono (by decide)) rfl (qa_cons (qe_ix (qe_var (i := 5) rfl (by trivial)) qe_int (fun _ _ => rfl)) qa_nil)))))
 (by exact (qss_cons (by exact (qs_if (by exact (qt_peek (fun F0 H0 => by exact (qt_w (qw_and (qt_cmp (fun _ => o_eq hu) (qe_bin (fun _ => o_mod) (qe_ix (qe_var (i := 5) rfl (by trivial)) qe_int (fun _ _ => rfl)) qe_int) qe_int (nomark _)) (qw_and1 (qt_cmp (fun _ => o_ne hu) (qe_var (i := 3) rfl (by trivial)) (qe_of (by exact (qf_lst qa_nil))) (nomark _))))))))
 (by exact (qss_one (by exact (qs_set (i := 6) nd rfl (by trivial) (by exact (qe_ixO (i := 3) rfl (by trivial) (qe_bin (fun _ => o_mod) (qe_bin (fun _ => o_div) (qe_ix (qe_var (i := 5) rfl (by trivial)) qe_int (fun _ _ => rfl)) qe_int) (qe_peek (fun F0 H0 => by exact (qe_callB (fun _ => q_len) rfl b_len boot_len (qa_cons (qe_var (i := 3) rfl (by trivial)) qa_nil))))) (fun _ _ => rfl)))))))
 (by exact qss_nil)))
 (by exact (qss_cons (by exact (qs_if (by exact (qt_peek (fun F0 H0 => by exact (qt_w (qw_and (qt_cmp (fun _ => o_eq hu) (qe_bin (fun _ => o_mod) (qe_ix (qe_var (i := 5) rfl (by trivial)) qe_int (fun _ _ => rfl)) qe_int) qe_int (nomark _)) (qw_and1 (qt_cmp (fun _ => o_ne hu) (qe_var (i := 3) rfl (by trivial)) (qe_of (by exact (qf_lst qa_nil))) (nomark _))))))))
 (by exact (qss_one (by exact (qs_set (i := 6) nd rfl (by trivial) (by exact (qe_callF G_law_plus (hr.mono (by decide)) rfl (qa_cons (qe_ixO (i := 3) rfl (by trivial) (qe_bin (fun _ => o_mod) (qe_bin (fun _ => o_div) (qe_ix (qe_var (i := 5) rfl (by trivial)) qe_int (fun _ _ => rfl)) qe_int) (qe_peek (fun F0 H0 => by exact (qe_callB (fun _ => q_len) rfl b_len boot_len (qa_cons (qe_var (i := 3) rfl (by trivial)) qa_nil))))) (fun _ _ => rfl)) (qa_cons (qe_ix (qe_of (by exact (qf_lst (qa_cons (qe_tup (qa_cons qe_int (qa_cons qe_int qa_nil))) (qa_cons (qe_tup (qa_cons (qe_neg qe_int) (qa_cons qe_int qa_nil))) (qa_cons (qe_tup (qa_cons qe_int (qa_cons qe_int qa_nil))) (qa_cons (qe_tup (qa_cons qe_int (qa_cons qe_int qa_nil))) qa_nil))))))) (qe_bin (fun _ => o_mod) (qe_bin (fun _ => o_div) (qe_ix (qe_var (i := 5) rfl (by trivial)) qe_int (fun _ _ => rfl)) qe_int) qe_int) (fun _ _ => rfl)) qa_nil))))))))
 (by exact qss_nil)))
 (by exact (qss_one (by exact (qs_own (i := 3) (fun _ => ow_append) PySem.F.slot_list_append PySem.F.type_list_append rfl (by trivial) (by exact (qa_cons (qe_var (i := 6) rfl (by trivial)) qa_nil))))))))))))))))
 (by exact (qss_one (by exact (qs_ret (by exact (qe_var (i := 3) rfl (by trivial))))))))))
theorem fo_law_marks {f : Addr} {fd : FuncData} (c : Cls) (F : Fun K "_law_marks" "_law_marks" s_law_marks f fd) (G_law_stream : Fn2 P w K mg base "_law_stream" 1 ["_law_cell_here", "_law_many"] (sp_law_stream c)) (G_law_fraction : Fn2 P w K mg base "_law_fraction" 2 ["_law_x"] (sp_law_fraction c)) (G_law_cell : Fn2 P w K mg base "_law_cell" 1 ["_law_script", "_law_k"] (sp_law_cell c)) (G_law_plus : Fn2 P w K mg base "_law_plus" 2 ["_law_one", "_law_other"] (sp_law_plus c)) (b_range : mg "range" = none) (b_len : mg "len" = none)  : FnOk P w K mg base (CX1 P w) 3 f fd ["_law_script", "_law_first", "_law_many"] (spUp K (sp_law_marks c)) :=
  fn2 F sc_law_marks (fun _ _ _ h => l_law_marks h) fun cdv A outer s H E hr F0 => ⟨rd_law_marks K c , d_law_marks c hr G_law_stream G_law_fraction G_law_cell G_law_plus b_range b_len, fun ds Q Ex h => r_law_marks  h⟩
theorem ok_law_marks {f : Addr} {fd : FuncData} (c : Cls) (F : Fun K "_law_marks" "_law_marks" s_law_marks f fd) (hm : mg "_law_marks" = some (.ref f)) (G_law_stream : Fn2 P w K mg base "_law_stream" 1 ["_law_cell_here", "_law_many"] (sp_law_stream c)) (G_law_fraction : Fn2 P w K mg base "_law_fraction" 2 ["_law_x"] (sp_law_fraction c)) (G_law_cell : Fn2 P w K mg base "_law_cell" 1 ["_law_script", "_law_k"] (sp_law_cell c)) (G_law_plus : Fn2 P w K mg base "_law_plus" 2 ["_law_one", "_law_other"] (sp_law_plus c)) (b_range : mg "range" = none) (b_len : mg "len" = none)  : Fn2 P w K mg base "_law_marks" 3 ["_law_script", "_law_first", "_law_many"] (sp_law_marks c) :=
  ⟨f, fd, fo_law_marks c F  G_law_stream G_law_fraction G_law_cell G_law_plus b_range b_len , hm, F.kp, F.binds fun _ _ _ _ _ _ us hl => match us, hl with | [_, _, _], _ => rfl⟩
abbrev s_law_bounds : Stmt := top 27
theorem sc_law_bounds : FnScope ["_law_script", "_law_first", "_law_many", "_law_bounds_here", "_law_left", "_law_cell_here", "_law_grades", "_law_k", "_law_x", "_law_share", "_law_least", "_law_most"] ["_law_script", "_law_first", "_law_many"] (defScope s_law_bounds) := ⟨rfl, rfl, rfl, by decide +kernel, rfl, by decide +kernel, by decide +kernel⟩
theorem d_law_bounds {f : Addr} {cdv : Value} {A : Around} {outer : List Env} {s : Shared} {H : Hp} {E : XK} {F0 : Hp} (c : Cls) (hr : Room 1 (A.deeper (envOfC "_law_bounds" (defScope s_law_bounds) s.heap.objs.size f cdv))) (G_law_cell : Fn2 P w K mg base "_law_cell" 1 ["_law_script", "_law_k"] (sp_law_cell c)) (G_law_stream : Fn2 P w K mg base "_law_stream" 1 ["_law_cell_here", "_law_many"] (sp_law_stream c)) (b_range : mg "range" = none) (b_max : mg "max" = none) (b_int : mg "int" = none) : QSs (cxOf (CX1 P w) P w K mg base ["_law_script", "_law_first", "_law_many", "_law_bounds_here", "_law_left", "_law_cell_here", "_law_grades", "_law_k", "_law_x", "_law_share", "_law_least", "_law_most"] "_law_bounds" (defScope s_law_bounds) f cdv A outer s H E) F0 H (defBody s_law_bounds) (rd_law_bounds K c ) := by
  have nd := sc_law_bounds.nd
  have hu : (A.deeper (envOfC "_law_bounds" (defScope s_law_bounds) s.heap.objs.size f cdv)).units + 21 < cLine := by have := hr.units; omega
  exact (qss_cons (by exact (qs_setF (i := 3) nd rfl (by trivial) (by exact (qf_lst qa_nil))))
 (by exact (qss_cons (by exact (qs_set (i := 4) nd rfl (by trivial) (by exact (qe_var (i := 2) rfl (by trivial)))))
 (by exact (qss_cons (by exact (qs_set (i := 5) nd rfl (by trivial) (by exact (qe_callF G_law_cell (hr.mono (by decide)) rfl (qa_cons (qe_var (i := 0) rfl (by trivial)) (qa_cons (qe_var (i := 1) rfl (by trivial)) qa_nil))))))
 (by exact (qss_cons (by exact (qs_set (i := 6) nd rfl (by trivial) (by exact (qe_bin (fun _ => o_add) qe_int (qe_bin (fun _ => o_mod) (qe_var (i := 5) rfl (by trivial)) (qe_ix (qe_of (by exact (qf_lst (qa_cons qe_int (qa_cons qe_int qa_nil))))) (qe_callT (fun _ => q_int) rfl b_int boot_int (qa_cons (qe_cmp (fun _ => o_eq hu) (qe_bin (fun _ => o_mod) (qe_bin (fun _ => o_div) (qe_var (i := 5) rfl (by trivial)) qe_int) qe_int) qe_int (nomark _)) qa_nil)) (fun _ _ => rfl)))))))
 (by exact (qss_cons (by exact (qs_rng1 rfl rfl b_range (by exact (qa_cons (qe_var (i := 6) rfl (by trivial)) qa_nil)) (by exact (qg_name (i := 7) nd rfl (by trivial)))
 (by exact (qss_cons (by exact (qs_set (i := 8) nd rfl (by trivial) (by exact (qe_callF G_law_stream (hr.mono (by decide)) rfl (qa_cons (qe_bin (fun _ => o_add) (qe_callF G_law_cell (hr.mono (by decide)) rfl (qa_cons (qe_var (i := 0) rfl (by trivial)) (qa_cons (qe_bin (fun _ => o_add) (qe_bin (fun _ => o_add) (qe_var (i := 1) rfl (by trivial)) qe_int) (qe_bin (fun _ => o_mod) (qe_var (i := 7) rfl (by trivial)) qe_int)) qa_nil))) (qe_bin (fun _ => o_mul) qe_int (qe_bin (fun _ => o_div) (qe_var (i := 7) rfl (by trivial)) qe_int))) (qa_cons qe_int qa_nil))))))
 (by exact (qss_cons (by exact (qs_set (i := 9) nd rfl (by trivial) (by exact (qe_bin (fun _ => o_mod) (qe_ix (qe_var (i := 8) rfl (by trivial)) qe_int (fun _ _ => rfl)) (qe_bin (fun _ => o_add) (qe_var (i := 4) rfl (by trivial)) qe_int)))))
 (by exact (qss_cons (by exact (qs_if (by exact (qt_cmp (fun _ => o_eq hu) (qe_var (i := 7) rfl (by trivial)) (qe_bin (fun _ => o_sub) (qe_var (i := 6) rfl (by trivial)) qe_int) (nomark _)))
 (by exact (qss_one (by exact (qs_set (i := 9) nd rfl (by trivial) (by exact (qe_var (i := 4) rfl (by trivial)))))))
 (by exact qss_nil)))
 (by exact (qss_cons (by exact (qs_set (i := 4) nd rfl (by trivial) (by exact (qe_bin (fun _ => o_sub) (qe_var (i := 4) rfl (by trivial)) (qe_var (i := 9) rfl (by trivial))))))
 (by exact (qss_cons (by exact (qs_set (i := 10) nd rfl (by trivial) (by exact (qe_callB (fun _ => q_max rfl) rfl b_max boot_max (qa_cons qe_int (qa_cons (qe_bin (fun _ => o_sub) (qe_var (i := 9) rfl (by trivial)) (qe_bin (fun _ => o_mod) (qe_ix (qe_var (i := 8) rfl (by trivial)) qe_int (fun _ _ => rfl)) qe_int)) qa_nil))))))
 (by exact (qss_cons (by exact (qs_set (i := 11) nd rfl (by trivial) (by exact (qe_bin (fun _ => o_add) (qe_bin (fun _ => o_add) (qe_var (i := 9) rfl (by trivial)) (qe_bin (fun _ => o_mod) (qe_ix (qe_var (i := 8) rfl (by trivial)) qe_int (fun _ _ => rfl)) qe_int)) (qe_bin (fun _ => o_mul) (qe_callT (fun _ => q_int) rfl b_int boot_int (qa_cons (qe_cmp (fun _ => o_eq hu) (qe_bin (fun _ => o_mod) (qe_ix (qe_var (i := 8) rfl (by trivial)) qe_int (fun _ _ => rfl)) qe_int) qe_int (nomark _)) qa_nil)) qe_int)))))
 (by exact (qss_cons (by exact (qs_if (by exact (qt_cmp (fun _ => o_eq hu) (qe_bin (fun _ => o_mod) (qe_ix (qe_var (i := 8) rfl (by trivial)) qe_int (fun _ _ => rfl)) qe_int) qe_int (nomark _)))
 (by exact (qss_one (by exact (qs_set (i := 11) nd rfl (by trivial) (by exact (qe_bin (fun _ => o_add) (qe_var (i := 11) rfl (by trivial)) (qe_bin (fun _ => o_mod) (qe_var (i := 5) rfl (by trivial)) (qe_bin (fun _ => o_pow) qe_int qe_int))))))))
 (by exact qss_nil)))
 (by exact (qss_one (by exact (qs_own (i := 3) (fun _ => ow_append) PySem.F.slot_list_append PySem.F.type_list_append rfl (by trivial) (by exact (qa_cons (qe_tup (qa_cons (qe_var (i := 10) rfl (by trivial)) (qa_cons (qe_var (i := 11) rfl (by trivial)) qa_nil))) qa_nil))))))))))))))))))))))
 (by exact (qss_one (by exact (qs_ret (by exact (qe_var (i := 3) rfl (by trivial))))))))))))))))
theorem fo_law_bounds {f : Addr} {fd : FuncData} (c : Cls) (F : Fun K "_law_bounds" "_law_bounds" s_law_bounds f fd) (G_law_cell : Fn2 P w K mg base "_law_cell" 1 ["_law_script", "_law_k"] (sp_law_cell c)) (G_law_stream : Fn2 P w K mg base "_law_stream" 1 ["_law_cell_here", "_law_many"] (sp_law_stream c)) (b_range : mg "range" = none) (b_max : mg "max" = none) (b_int : mg "int" = none)  : FnOk P w K mg base (CX1 P w) 2 f fd ["_law_script", "_law_first", "_law_many"] (spUp K (sp_law_bounds c)) :=
  fn2 F sc_law_bounds (fun _ _ _ h => l_law_bounds h) fun cdv A outer s H E hr F0 => ⟨rd_law_bounds K c , d_law_bounds c hr G_law_cell G_law_stream b_range b_max b_int, fun ds Q Ex h => r_law_bounds  h⟩
theorem ok_law_bounds {f : Addr} {fd : FuncData} (c : Cls) (F : Fun K "_law_bounds" "_law_bounds" s_law_bounds f fd) (hm : mg "_law_bounds" = some (.ref f)) (G_law_cell : Fn2 P w K mg base "_law_cell" 1 ["_law_script", "_law_k"] (sp_law_cell c)) (G_law_stream : Fn2 P w K mg base "_law_stream" 1 ["_law_cell_here", "_law_many"] (sp_law_stream c)) (b_range : mg "range" = none) (b_max : mg "max" = none) (b_int : mg "int" = none)  : Fn2 P w K mg base "_law_bounds" 2 ["_law_script", "_law_first", "_law_many"] (sp_law_bounds c) :=
  ⟨f, fd, fo_law_bounds c F  G_law_cell G_law_stream b_range b_max b_int , hm, F.kp, F.binds fun _ _ _ _ _ _ us hl => match us, hl with | [_, _, _], _ => rfl⟩
abbrev s_is_within : Stmt := top 12
theorem sc_is_within : FnScope ["step", "bound"] ["step", "bound"] (defScope s_is_within) := ⟨rfl, rfl, rfl, by decide +kernel, rfl, by decide +kernel, by decide +kernel⟩
theorem d_is_within {f : Addr} {cdv : Value} {A : Around} {outer : List Env} {s : Shared} {H : Hp} {E : XK} {F0 : Hp} (c : Cls) (hr : Room 0 (A.deeper (envOfC "is_within" (defScope s_is_within) s.heap.objs.size f cdv)))  : QSs (cxOf (CX1 P w) P w K mg base ["step", "bound"] "is_within" (defScope s_is_within) f cdv A outer s H E) F0 H (defBody s_is_within) (rd_is_within K c ) := by
  have nd := sc_is_within.nd
  have hu : (A.deeper (envOfC "is_within" (defScope s_is_within) s.heap.objs.size f cdv)).units + 21 < cLine := by have := hr.units; omega
  exact (qss_one (by exact (qs_ret (by exact (qe_chain (fun _ => o_le) (fun _ => o_le) (qe_ix (qe_var (i := 1) rfl (by trivial)) qe_int (fun _ _ => rfl)) (qe_var (i := 0) rfl (by trivial)) (qe_ix (qe_var (i := 1) rfl (by trivial)) qe_int (fun _ _ => rfl)))))))
theorem fo_is_within {f : Addr} {fd : FuncData} (c : Cls) (F : Fun K "is_within" "is_within" s_is_within f fd)   : FnOk P w K mg base (CX1 P w) 1 f fd ["step", "bound"] (spUp K (sp_is_within c)) :=
  fn2 F sc_is_within (fun _ _ _ h => l_is_within h) fun cdv A outer s H E hr F0 => ⟨rd_is_within K c , d_is_within c hr , fun ds Q Ex h => r_is_within  h⟩
theorem ok_is_within {f : Addr} {fd : FuncData} (c : Cls) (F : Fun K "is_within" "is_within" s_is_within f fd) (hm : mg "is_within" = some (.ref f))   : Fn2 P w K mg base "is_within" 1 ["step", "bound"] (sp_is_within c) :=
  ⟨f, fd, fo_is_within c F   , hm, F.kp, F.binds fun _ _ _ _ _ _ us hl => match us, hl with | [_, _], _ => rfl⟩
abbrev s_reached : Stmt := top 11
theorem sc_reached : FnScope ["some", "ahead", "bound"] ["some", "ahead", "bound"] (defScope s_reached) := ⟨rfl, rfl, rfl, by decide +kernel, rfl, by decide +kernel, by decide +kernel⟩
theorem d_reached {f : Addr} {cdv : Value} {A : Around} {outer : List Env} {s : Shared} {H : Hp} {E : XK} {F0 : Hp} (c : Cls) (hr : Room 1 (A.deeper (envOfC "reached" (defScope s_reached) s.heap.objs.size f cdv))) (G_is_within : Fn2 P w K mg base "is_within" 1 ["step", "bound"] (sp_is_within c)) (b_any : mg "any" = none) : QSs (cxOf (CX1 P w) P w K mg base ["some", "ahead", "bound"] "reached" (defScope s_reached) f cdv A outer s H E) F0 H (defBody s_reached) (rd_reached K c ) := by
  have nd := sc_reached.nd
  have hu : (A.deeper (envOfC "reached" (defScope s_reached) s.heap.objs.size f cdv)).units + 21 < cLine := by have := hr.units; omega
  exact (qss_one (by exact (qs_ret (by exact (qe_of (by exact (qf_comp (own := ["end"]) (N' := ["end", "ahead", "bound"]) (by show CpOk ["some", "ahead", "bound"] _ ["end"] [1, 2] (defScope s_reached) ["end", "ahead", "bound"]; exact ⟨rfl, by decide +kernel, by decide +kernel, by decide +kernel, rfl, by decide +kernel⟩) rfl (by exact (qic (qi_seq (qe_var (i := 0) rfl (by trivial))))) (fun C s₀ H₀ fp F0 H0 => by exact (qg_name (i := 0) (show (["end", "ahead", "bound"] : List Str).Nodup by decide +kernel) rfl (by trivial))) (fun C s₀ H₀ fp F0 H0 => by exact (qts_one (qt_val (qe_callB (fun _ => q_any rfl) rfl b_any boot_any (qa_cons (qe_of (by exact (qf_comp (own := ["start"]) (N' := ["start", "end", "bound"]) (by show CpOk ["end", "ahead", "bound"] _ ["start"] [0, 2] (relabelS _ (defScope s_reached)) ["start", "end", "bound"]; exact ⟨rfl, by decide +kernel, by decide +kernel, by decide +kernel, rfl, by decide +kernel⟩) rfl (by exact (qic (qi_seq (qe_var (i := 1) rfl (by trivial))))) (fun C s₀ H₀ fp F0 H0 => by exact (qg_name (i := 0) (show (["start", "end", "bound"] : List Str).Nodup by decide +kernel) rfl (by trivial))) (fun C s₀ H₀ fp F0 H0 => by exact qts_nil) (fun C s₀ H₀ fp F0 H0 => by exact (qe_callF G_is_within (hr.mono (by decide)) rfl (qa_cons (qe_bin (fun _ => o_sub) (qe_var (i := 1) rfl (by trivial)) (qe_var (i := 0) rfl (by trivial))) (qa_cons (qe_var (i := 2) rfl (by trivial)) qa_nil))))))) qa_nil))))) (fun C s₀ H₀ fp F0 H0 => by exact (qe_var (i := 0) rfl (by trivial))))))))))
theorem fo_reached {f : Addr} {fd : FuncData} (c : Cls) (F : Fun K "reached" "reached" s_reached f fd) (G_is_within : Fn2 P w K mg base "is_within" 1 ["step", "bound"] (sp_is_within c)) (b_any : mg "any" = none)  : FnOk P w K mg base (CX1 P w) 2 f fd ["some", "ahead", "bound"] (spUp K (sp_reached c)) :=
  fn2 F sc_reached (fun _ _ _ h => l_reached h) fun cdv A outer s H E hr F0 => ⟨rd_reached K c , d_reached c hr G_is_within b_any, fun ds Q Ex h => r_reached  h⟩
theorem ok_reached {f : Addr} {fd : FuncData} (c : Cls) (F : Fun K "reached" "reached" s_reached f fd) (hm : mg "reached" = some (.ref f)) (G_is_within : Fn2 P w K mg base "is_within" 1 ["step", "bound"] (sp_is_within c)) (b_any : mg "any" = none)  : Fn2 P w K mg base "reached" 2 ["some", "ahead", "bound"] (sp_reached c) :=
  ⟨f, fd, fo_reached c F  G_is_within b_any , hm, F.kp, F.binds fun _ _ _ _ _ _ us hl => match us, hl with | [_, _, _], _ => rfl⟩
abbrev s_reach : Stmt := top 10
theorem sc_reach : FnScope ["some", "bounds", "lists", "bound"] ["some", "bounds"] (defScope s_reach) := ⟨rfl, rfl, rfl, by decide +kernel, rfl, by decide +kernel, by decide +kernel⟩
theorem d_reach {f : Addr} {cdv : Value} {A : Around} {outer : List Env} {s : Shared} {H : Hp} {E : XK} {F0 : Hp} (c : Cls) (hr : Room 2 (A.deeper (envOfC "reach" (defScope s_reach) s.heap.objs.size f cdv))) (G_reached : Fn2 P w K mg base "reached" 2 ["some", "ahead", "bound"] (sp_reached c)) : QSs (cxOf (CX1 P w) P w K mg base ["some", "bounds", "lists", "bound"] "reach" (defScope s_reach) f cdv A outer s H E) F0 H (defBody s_reach) (rd_reach K c ) := by
  have nd := sc_reach.nd
  have hu : (A.deeper (envOfC "reach" (defScope s_reach) s.heap.objs.size f cdv)).units + 21 < cLine := by have := hr.units; omega
  exact (qss_cons (by exact (qs_setF (i := 2) nd rfl (by trivial) (by exact (qf_lst (qa_cons (qe_of (by exact (qf_lst (qa_cons qe_int qa_nil)))) qa_nil)))))
 (by exact (qss_cons (by exact (qs_for rfl (by exact (qe_var (i := 1) rfl (by trivial))) (by exact (qg_name (i := 3) nd rfl (by trivial)))
 (by exact (qss_one (by exact (qs_own (i := 2) (fun _ => ow_append) PySem.F.slot_list_append PySem.F.type_list_append rfl (by trivial) (by exact (qa_cons (qe_callF G_reached (hr.mono (by decide)) rfl (qa_cons (qe_var (i := 0) rfl (by trivial)) (qa_cons (qe_ixO (i := 2) rfl (by trivial) (qe_neg qe_int) (fun _ _ => rfl)) (qa_cons (qe_var (i := 3) rfl (by trivial)) qa_nil)))) qa_nil))))))))
 (by exact (qss_one (by exact (qs_ret (by exact (qe_var (i := 2) rfl (by trivial))))))))))
theorem fo_reach {f : Addr} {fd : FuncData} (c : Cls) (F : Fun K "reach" "reach" s_reach f fd) (G_reached : Fn2 P w K mg base "reached" 2 ["some", "ahead", "bound"] (sp_reached c))  : FnOk P w K mg base (CX1 P w) 3 f fd ["some", "bounds"] (spUp K (sp_reach c)) :=
  fn2 F sc_reach (fun _ _ _ h => l_reach h) fun cdv A outer s H E hr F0 => ⟨rd_reach K c , d_reach c hr G_reached, fun ds Q Ex h => r_reach  h⟩
theorem ok_reach {f : Addr} {fd : FuncData} (c : Cls) (F : Fun K "reach" "reach" s_reach f fd) (hm : mg "reach" = some (.ref f)) (G_reached : Fn2 P w K mg base "reached" 2 ["some", "ahead", "bound"] (sp_reached c))  : Fn2 P w K mg base "reach" 3 ["some", "bounds"] (sp_reach c) :=
  ⟨f, fd, fo_reach c F  G_reached , hm, F.kp, F.binds fun _ _ _ _ _ _ us hl => match us, hl with | [_, _], _ => rfl⟩
abbrev s_Barred___init__ : Stmt := inClass (top 3) 0
theorem sc_Barred___init__ : FnScope ["self", "reach"] ["self", "reach"] (defScope s_Barred___init__) := ⟨rfl, rfl, rfl, by decide +kernel, rfl, by decide +kernel, by decide +kernel⟩
theorem fo_Barred___init__ {f : Addr} {fd : FuncData} (c : Cls) (F : Fun K "__init__" "Barred.__init__" s_Barred___init__ f fd) (xi_Barred : ExcI K c.Barred) (xa_HallError : ExcA K c.HallError) (G_reach : Fn2 P w K mg base "reach" 3 ["some", "bounds"] (sp_reach c)) (b_list : mg "list" = none) (e_HallError : mg "HallError" = some (.ref c.HallError) ∧ ExcC K c.HallError) (na_Barred_reach : NoAttr K c.Barred "reach")  : FnOk P w K mg base (CX1 P w) 4 f fd ["self", "reach"] (spXInit K c.Barred "reach" (sp_Barred c)) := by
  have nd := sc_Barred___init__.nd
  refine fn_xinit F rfl sc_Barred___init__ xi_Barred xa_HallError e_HallError.1 na_Barred_reach rfl (Or.inl rfl) (fun _ _ _ h => l_Barred h) (by decide) fun cdv A outer s H E hr F0 => ?_
  have hu : (A.deeper (envOfC "Barred.__init__" (defScope s_Barred___init__) s.heap.objs.size f cdv)).units + 21 < cLine := by have := hr.units; omega
  exact ⟨rfl, rfl, ⟨_, rfl⟩, rd_Barred___init__ K c, by exact (qe_of (by exact (qf_comp (own := ["counts"]) (N' := ["counts"]) (by show CpOk ["self", "reach"] _ ["counts"] [] (defScope s_Barred___init__) ["counts"]; exact ⟨rfl, by decide +kernel, by decide +kernel, by decide +kernel, rfl, by decide +kernel⟩) rfl (by exact (qic (qi_seq (qe_var (i := 1) rfl (by trivial))))) (fun C s₀ H₀ fp F0 H0 => by exact (qg_name (i := 0) (show (["counts"] : List Str).Nodup by decide +kernel) rfl (by trivial))) (fun C s₀ H₀ fp F0 H0 => by exact qts_nil) (fun C s₀ H₀ fp F0 H0 => by exact (qe_of (by exact (qf_callT (fun _ => q_list) rfl b_list boot_list (qa_cons (qe_var (i := 0) rfl (by trivial)) qa_nil)))))))), fun a ds Q Ex h => r_Barred  h⟩
theorem ok_Barred___init__ {f : Addr} {fd : FuncData} (c : Cls) (F : Fun K "__init__" "Barred.__init__" s_Barred___init__ f fd) (M : PySem.W.findIn K (.ref c.Barred) "__init__" = some (some (.ref f)) ∧ PySem.W.isFn K (.ref f) = true) (hm : mg "Barred" = some (.ref c.Barred)) (xi_Barred : ExcI K c.Barred) (xa_HallError : ExcA K c.HallError) (G_reach : Fn2 P w K mg base "reach" 3 ["some", "bounds"] (sp_reach c)) (b_list : mg "list" = none) (e_HallError : mg "HallError" = some (.ref c.HallError) ∧ ExcC K c.HallError) (na_Barred_reach : NoAttr K c.Barred "reach")  : Xk2 P w K mg base "Barred" c.Barred "reach" 4 ["self", "reach"] (sp_Barred c) :=
  ⟨f, fd, fo_Barred___init__ c F xi_Barred xa_HallError G_reach b_list e_HallError na_Barred_reach , M.1, M.2, xi_Barred, hm, F.binds fun _ _ _ _ _ _ us hl => match us, hl with | [_, _], _ => rfl⟩
abbrev s_under : Stmt := top 6
theorem sc_under : FnScope ["one", "other"] ["one", "other"] (defScope s_under) := ⟨rfl, rfl, rfl, by decide +kernel, rfl, by decide +kernel, by decide +kernel⟩
theorem d_under {f : Addr} {cdv : Value} {A : Around} {outer : List Env} {s : Shared} {H : Hp} {E : XK} {F0 : Hp} (c : Cls) (hr : Room 0 (A.deeper (envOfC "under" (defScope s_under) s.heap.objs.size f cdv)))  : QSs (cxOf (CX1 P w) P w K mg base ["one", "other"] "under" (defScope s_under) f cdv A outer s H E) F0 H (defBody s_under) (rd_under K c ) := by
  have nd := sc_under.nd
  have hu : (A.deeper (envOfC "under" (defScope s_under) s.heap.objs.size f cdv)).units + 21 < cLine := by have := hr.units; omega
  exact (qss_one (by exact (qs_ret (by exact (qe_cmp (fun _ => o_lt) (qe_bin (fun _ => o_mul) (qe_ix (qe_var (i := 0) rfl (by trivial)) qe_int (fun _ _ => rfl)) (qe_ix (qe_var (i := 1) rfl (by trivial)) qe_int (fun _ _ => rfl))) (qe_bin (fun _ => o_mul) (qe_ix (qe_var (i := 1) rfl (by trivial)) qe_int (fun _ _ => rfl)) (qe_ix (qe_var (i := 0) rfl (by trivial)) qe_int (fun _ _ => rfl))) (nomark _))))))
theorem fo_under {f : Addr} {fd : FuncData} (c : Cls) (F : Fun K "under" "under" s_under f fd)   : FnOk P w K mg base (CX1 P w) 1 f fd ["one", "other"] (spUp K (sp_under c)) :=
  fn2 F sc_under (fun _ _ _ h => l_under h) fun cdv A outer s H E hr F0 => ⟨rd_under K c , d_under c hr , fun ds Q Ex h => r_under  h⟩
theorem ok_under {f : Addr} {fd : FuncData} (c : Cls) (F : Fun K "under" "under" s_under f fd) (hm : mg "under" = some (.ref f))   : Fn2 P w K mg base "under" 1 ["one", "other"] (sp_under c) :=
  ⟨f, fd, fo_under c F   , hm, F.kp, F.binds fun _ _ _ _ _ _ us hl => match us, hl with | [_, _], _ => rfl⟩
abbrev s_number_from : Stmt := top 9
theorem sc_number_from : FnScope ["least", "marks"] ["least", "marks"] (defScope s_number_from) := ⟨rfl, rfl, rfl, by decide +kernel, rfl, by decide +kernel, by decide +kernel⟩
theorem d_number_from {f : Addr} {cdv : Value} {A : Around} {outer : List Env} {s : Shared} {H : Hp} {E : XK} {F0 : Hp} (c : Cls) (hr : Room 1 (A.deeper (envOfC "number_from" (defScope s_number_from) s.heap.objs.size f cdv))) (G_under : Fn2 P w K mg base "under" 1 ["one", "other"] (sp_under c)) (b_len : mg "len" = none) : QSs (cxOf (CX1 P w) P w K mg base ["least", "marks"] "number_from" (defScope s_number_from) f cdv A outer s H E) F0 H (defBody s_number_from) (rd_number_from K c ) := by
  have nd := sc_number_from.nd
  have hu : (A.deeper (envOfC "number_from" (defScope s_number_from) s.heap.objs.size f cdv)).units + 21 < cLine := by have := hr.units; omega
  exact (qss_one (by exact (qs_ret (by exact (qe_callB (fun _ => q_len) rfl b_len boot_len (qa_cons (qe_of (by exact (qf_comp (own := ["mark"]) (N' := ["mark", "least"]) (by show CpOk ["least", "marks"] _ ["mark"] [0] (defScope s_number_from) ["mark", "least"]; exact ⟨rfl, by decide +kernel, by decide +kernel, by decide +kernel, rfl, by decide +kernel⟩) rfl (by exact (qic (qi_seq (qe_var (i := 1) rfl (by trivial))))) (fun C s₀ H₀ fp F0 H0 => by exact (qg_name (i := 0) (show (["mark", "least"] : List Str).Nodup by decide +kernel) rfl (by trivial))) (fun C s₀ H₀ fp F0 H0 => by exact (qts_one (qt_not (qt_val (qe_callF G_under (hr.mono (by decide)) rfl (qa_cons (qe_var (i := 0) rfl (by trivial)) (qa_cons (qe_var (i := 1) rfl (by trivial)) qa_nil))))))) (fun C s₀ H₀ fp F0 H0 => by exact (qe_var (i := 0) rfl (by trivial)))))) qa_nil))))))
theorem fo_number_from {f : Addr} {fd : FuncData} (c : Cls) (F : Fun K "number_from" "number_from" s_number_from f fd) (G_under : Fn2 P w K mg base "under" 1 ["one", "other"] (sp_under c)) (b_len : mg "len" = none)  : FnOk P w K mg base (CX1 P w) 2 f fd ["least", "marks"] (spUp K (sp_number_from c)) :=
  fn2 F sc_number_from (fun _ _ _ h => l_number_from h) fun cdv A outer s H E hr F0 => ⟨rd_number_from K c , d_number_from c hr G_under b_len, fun ds Q Ex h => r_number_from  h⟩
theorem ok_number_from {f : Addr} {fd : FuncData} (c : Cls) (F : Fun K "number_from" "number_from" s_number_from f fd) (hm : mg "number_from" = some (.ref f)) (G_under : Fn2 P w K mg base "under" 1 ["one", "other"] (sp_under c)) (b_len : mg "len" = none)  : Fn2 P w K mg base "number_from" 2 ["least", "marks"] (sp_number_from c) :=
  ⟨f, fd, fo_number_from c F  G_under b_len , hm, F.kp, F.binds fun _ _ _ _ _ _ us hl => match us, hl with | [_, _], _ => rfl⟩
abbrev s_ends : Stmt := top 8
theorem sc_ends : FnScope ["marks"] ["marks"] (defScope s_ends) := ⟨rfl, rfl, rfl, by decide +kernel, rfl, by decide +kernel, by decide +kernel⟩
theorem d_ends {f : Addr} {cdv : Value} {A : Around} {outer : List Env} {s : Shared} {H : Hp} {E : XK} {F0 : Hp} (c : Cls) (hr : Room 2 (A.deeper (envOfC "ends" (defScope s_ends) s.heap.objs.size f cdv))) (G_number_from : Fn2 P w K mg base "number_from" 2 ["least", "marks"] (sp_number_from c)) (b_sorted : mg "sorted" = none) (b_set : mg "set" = none) : QSs (cxOf (CX1 P w) P w K mg base ["marks"] "ends" (defScope s_ends) f cdv A outer s H E) F0 H (defBody s_ends) (rd_ends K c ) := by
  have nd := sc_ends.nd
  have hu : (A.deeper (envOfC "ends" (defScope s_ends) s.heap.objs.size f cdv)).units + 21 < cLine := by have := hr.units; omega
  exact (qss_one (by exact (qs_ret (by exact (qe_of (by exact (qf_sset rfl rfl b_sorted rfl b_set (qa_cons (qe_of (by exact (qf_cat (qe_of (by exact (qf_lst (qa_cons qe_int qa_nil)))) (qe_of (by exact (qf_comp (own := ["mark"]) (N' := ["mark", "marks"]) (by show CpOk ["marks"] _ ["mark"] [0] (defScope s_ends) ["mark", "marks"]; exact ⟨rfl, by decide +kernel, by decide +kernel, by decide +kernel, rfl, by decide +kernel⟩) rfl (by exact (qic (qi_seq (qe_var (i := 0) rfl (by trivial))))) (fun C s₀ H₀ fp F0 H0 => by exact (qg_name (i := 0) (show (["mark", "marks"] : List Str).Nodup by decide +kernel) rfl (by trivial))) (fun C s₀ H₀ fp F0 H0 => by exact qts_nil) (fun C s₀ H₀ fp F0 H0 => by exact (qe_callF G_number_from (hr.mono (by decide)) rfl (qa_cons (qe_var (i := 0) rfl (by trivial)) (qa_cons (qe_var (i := 1) rfl (by trivial)) qa_nil)))))))))) qa_nil))))))))
theorem fo_ends {f : Addr} {fd : FuncData} (c : Cls) (F : Fun K "ends" "ends" s_ends f fd) (G_number_from : Fn2 P w K mg base "number_from" 2 ["least", "marks"] (sp_number_from c)) (b_sorted : mg "sorted" = none) (b_set : mg "set" = none)  : FnOk P w K mg base (CX1 P w) 3 f fd ["marks"] (spUp K (sp_ends c)) :=
  fn2 F sc_ends (fun _ _ _ h => l_ends h) fun cdv A outer s H E hr F0 => ⟨rd_ends K c , d_ends c hr G_number_from b_sorted b_set, fun ds Q Ex h => r_ends  h⟩
theorem ok_ends {f : Addr} {fd : FuncData} (c : Cls) (F : Fun K "ends" "ends" s_ends f fd) (hm : mg "ends" = some (.ref f)) (G_number_from : Fn2 P w K mg base "number_from" 2 ["least", "marks"] (sp_number_from c)) (b_sorted : mg "sorted" = none) (b_set : mg "set" = none)  : Fn2 P w K mg base "ends" 3 ["marks"] (sp_ends c) :=
  ⟨f, fd, fo_ends c F  G_number_from b_sorted b_set , hm, F.kp, F.binds fun _ _ _ _ _ _ us hl => match us, hl with | [_], _ => rfl⟩
abbrev s_rests_behind : Stmt := top 15
theorem sc_rests_behind : FnScope ["some", "bounds", "backward", "lists"] ["some", "bounds"] (defScope s_rests_behind) := ⟨rfl, rfl, rfl, by decide +kernel, rfl, by decide +kernel, by decide +kernel⟩
theorem d_rests_behind {f : Addr} {cdv : Value} {A : Around} {outer : List Env} {s : Shared} {H : Hp} {E : XK} {F0 : Hp} (c : Cls) (hr : Room 3 (A.deeper (envOfC "rests_behind" (defScope s_rests_behind) s.heap.objs.size f cdv))) (G_reach : Fn2 P w K mg base "reach" 3 ["some", "bounds"] (sp_reach c)) (b_list : mg "list" = none) (b_reversed : mg "reversed" = none) : QSs (cxOf (CX1 P w) P w K mg base ["some", "bounds", "backward", "lists"] "rests_behind" (defScope s_rests_behind) f cdv A outer s H E) F0 H (defBody s_rests_behind) (rd_rests_behind K c ) := by
  have nd := sc_rests_behind.nd
  have hu : (A.deeper (envOfC "rests_behind" (defScope s_rests_behind) s.heap.objs.size f cdv)).units + 21 < cLine := by have := hr.units; omega
  exact (qss_cons (by exact (qs_frz (by exact (qs_setC (i := 2) nd rfl rfl (own := ["end"]) (N' := ["end", "some"]) (by show CpOk ["some", "bounds", "backward", "lists"] _ ["end"] [0] (defScope s_rests_behind) ["end", "some"]; exact ⟨rfl, by decide +kernel, by decide +kernel, by decide +kernel, rfl, by decide +kernel⟩) rfl (by exact (qic (qi_reversed rfl rfl b_reversed (qa_cons (qe_var (i := 0) rfl (by trivial)) qa_nil)))) (fun C s₀ H₀ fp F0 H0 => by exact (qg_name (i := 0) (show (["end", "some"] : List Str).Nodup by decide +kernel) rfl (by trivial))) (fun C s₀ H₀ fp F0 H0 => by exact qts_nil) (fun C s₀ H₀ fp F0 H0 => by exact (qe_bin (fun _ => o_sub) (qe_ix (qe_var (i := 1) rfl (by trivial)) (qe_neg qe_int) (fun _ _ => rfl)) (qe_var (i := 0) rfl (by trivial))))))))
 (by exact (qss_cons (by exact (qs_set (i := 3) nd rfl (by trivial) (by exact (qe_callF G_reach (hr.mono (by decide)) rfl (qa_cons (qe_var (i := 2) rfl (by trivial)) (qa_cons (qe_of (by exact (qf_lrev rfl rfl b_list rfl b_reversed (qa_cons (qe_var (i := 1) rfl (by trivial)) qa_nil)))) qa_nil))))))
 (by exact (qss_one (by exact (qs_ret (by exact (qe_of (by exact (qf_slice (qe_of (by exact (qf_lrev rfl rfl b_list rfl b_reversed (qa_cons (qe_var (i := 3) rfl (by trivial)) qa_nil)))) (qo_is qe_int) qo_no)))))))))))
theorem fo_rests_behind {f : Addr} {fd : FuncData} (c : Cls) (F : Fun K "rests_behind" "rests_behind" s_rests_behind f fd) (G_reach : Fn2 P w K mg base "reach" 3 ["some", "bounds"] (sp_reach c)) (b_list : mg "list" = none) (b_reversed : mg "reversed" = none)  : FnOk P w K mg base (CX1 P w) 4 f fd ["some", "bounds"] (spUp K (sp_rests_behind c)) :=
  fn2 F sc_rests_behind (fun _ _ _ h => l_rests_behind h) fun cdv A outer s H E hr F0 => ⟨rd_rests_behind K c , d_rests_behind c hr G_reach b_list b_reversed, fun ds Q Ex h => r_rests_behind  h⟩
theorem ok_rests_behind {f : Addr} {fd : FuncData} (c : Cls) (F : Fun K "rests_behind" "rests_behind" s_rests_behind f fd) (hm : mg "rests_behind" = some (.ref f)) (G_reach : Fn2 P w K mg base "reach" 3 ["some", "bounds"] (sp_reach c)) (b_list : mg "list" = none) (b_reversed : mg "reversed" = none)  : Fn2 P w K mg base "rests_behind" 4 ["some", "bounds"] (sp_rests_behind c) :=
  ⟨f, fd, fo_rests_behind c F  G_reach b_list b_reversed , hm, F.kp, F.binds fun _ _ _ _ _ _ us hl => match us, hl with | [_, _], _ => rfl⟩
abbrev s_greatest_cuts : Stmt := top 14
theorem sc_greatest_cuts : FnScope ["some", "bounds", "found", "bound", "rests", "steps"] ["some", "bounds"] (defScope s_greatest_cuts) := ⟨rfl, rfl, rfl, by decide +kernel, rfl, by decide +kernel, by decide +kernel⟩
theorem d_greatest_cuts {f : Addr} {cdv : Value} {A : Around} {outer : List Env} {s : Shared} {H : Hp} {E : XK} {F0 : Hp} (c : Cls) (hr : Room 4 (A.deeper (envOfC "greatest_cuts" (defScope s_greatest_cuts) s.heap.objs.size f cdv))) (G_rests_behind : Fn2 P w K mg base "rests_behind" 4 ["some", "bounds"] (sp_rests_behind c)) (G_is_within : Fn2 P w K mg base "is_within" 1 ["step", "bound"] (sp_is_within c)) (b_zip : mg "zip" = none) (b_max : mg "max" = none) : QSs (cxOf (CX1 P w) P w K mg base ["some", "bounds", "found", "bound", "rests", "steps"] "greatest_cuts" (defScope s_greatest_cuts) f cdv A outer s H E) F0 H (defBody s_greatest_cuts) (rd_greatest_cuts K c ) := by
  have nd := sc_greatest_cuts.nd
  have hu : (A.deeper (envOfC "greatest_cuts" (defScope s_greatest_cuts) s.heap.objs.size f cdv)).units + 21 < cLine := by have := hr.units; omega
  exact (qss_cons (by exact (qs_setF (i := 2) nd rfl (by trivial) (by exact (qf_lst (qa_cons qe_int qa_nil)))))
 (by exact (qss_cons (by exact (qs_forI rfl (by exact (qi_zip rfl rfl b_zip (qa_cons (qe_var (i := 1) rfl (by trivial)) (qa_cons (qe_callF G_rests_behind (hr.mono (by decide)) rfl (qa_cons (qe_var (i := 0) rfl (by trivial)) (qa_cons (qe_var (i := 1) rfl (by trivial)) qa_nil))) qa_nil)))) (by exact (qg_tup rfl (qgs_cons (qg_name (i := 3) nd rfl (by trivial)) (qgs_cons (qg_name (i := 4) nd rfl (by trivial)) qgs_nil))))
 (by exact (qss_cons (by exact (qs_setCL (i := 5) nd rfl rfl (own := ["end"]) (N' := ["end", "found", "bound"]) (by show CpOk ["some", "bounds", "found", "bound", "rests", "steps"] _ ["end"] [2, 3] (defScope s_greatest_cuts) ["end", "found", "bound"]; exact ⟨rfl, by decide +kernel, by decide +kernel, by decide +kernel, rfl, by decide +kernel⟩) rfl (fun F0 H0 => by exact (qic (qi_seq (qe_var (i := 0) rfl (by trivial))))) (fun C s₀ H₀ fp F0 H0 => by exact (qg_name (i := 0) (show (["end", "found", "bound"] : List Str).Nodup by decide +kernel) rfl (by trivial))) (fun C s₀ H₀ fp F0 H0 => by exact (qts_one (qt_val (qe_callF G_is_within (hr.mono (by decide)) rfl (qa_cons (qe_bin (fun _ => o_sub) (qe_var (i := 0) rfl (by trivial)) (qe_ix (qe_var (i := 1) rfl (by trivial)) (qe_neg qe_int) (fun _ _ => rfl))) (qa_cons (qe_var (i := 2) rfl (by trivial)) qa_nil)))))) (fun C s₀ H₀ fp F0 H0 => by exact (qe_var (i := 0) rfl (by trivial)))))
 (by exact (qss_one (by exact (qs_own (i := 2) (fun _ => ow_append) PySem.F.slot_list_append PySem.F.type_list_append rfl (by trivial) (by exact (qa_cons (qe_callB (fun _ => q_maxL rfl) rfl b_max boot_max (qa_cons (qe_of (by exact (qf_comp (own := ["end"]) (N' := ["end", "some", "rests"]) (by show CpOk ["some", "bounds", "found", "bound", "rests", "steps"] _ ["end"] [0, 4] (defScope s_greatest_cuts) ["end", "some", "rests"]; exact ⟨rfl, by decide +kernel, by decide +kernel, by decide +kernel, rfl, by decide +kernel⟩) rfl (by exact (qic (qi_seq (qe_var (i := 5) rfl (by trivial))))) (fun C s₀ H₀ fp F0 H0 => by exact (qg_name (i := 0) (show (["end", "some", "rests"] : List Str).Nodup by decide +kernel) rfl (by trivial))) (fun C s₀ H₀ fp F0 H0 => by exact (qts_one (qt_cmp (fun _ => o_in) (qe_bin (fun _ => o_sub) (qe_ix (qe_var (i := 1) rfl (by trivial)) (qe_neg qe_int) (fun _ _ => rfl)) (qe_var (i := 0) rfl (by trivial))) (qe_var (i := 2) rfl (by trivial)) (by with_unfolding_all rfl)))) (fun C s₀ H₀ fp F0 H0 => by exact (qe_var (i := 0) rfl (by trivial)))))) qa_nil)) qa_nil))))))))))
 (by exact (qss_one (by exact (qs_ret (by exact (qe_of (by exact (qf_slice (qe_var (i := 2) rfl (by trivial)) (qo_is qe_int) qo_no)))))))))))
theorem fo_greatest_cuts {f : Addr} {fd : FuncData} (c : Cls) (F : Fun K "greatest_cuts" "greatest_cuts" s_greatest_cuts f fd) (G_rests_behind : Fn2 P w K mg base "rests_behind" 4 ["some", "bounds"] (sp_rests_behind c)) (G_is_within : Fn2 P w K mg base "is_within" 1 ["step", "bound"] (sp_is_within c)) (b_zip : mg "zip" = none) (b_max : mg "max" = none)  : FnOk P w K mg base (CX1 P w) 5 f fd ["some", "bounds"] (spUp K (sp_greatest_cuts c)) :=
  fn2 F sc_greatest_cuts (fun _ _ _ h => l_greatest_cuts h) fun cdv A outer s H E hr F0 => ⟨rd_greatest_cuts K c , d_greatest_cuts c hr G_rests_behind G_is_within b_zip b_max, fun ds Q Ex h => r_greatest_cuts  h⟩
theorem ok_greatest_cuts {f : Addr} {fd : FuncData} (c : Cls) (F : Fun K "greatest_cuts" "greatest_cuts" s_greatest_cuts f fd) (hm : mg "greatest_cuts" = some (.ref f)) (G_rests_behind : Fn2 P w K mg base "rests_behind" 4 ["some", "bounds"] (sp_rests_behind c)) (G_is_within : Fn2 P w K mg base "is_within" 1 ["step", "bound"] (sp_is_within c)) (b_zip : mg "zip" = none) (b_max : mg "max" = none)  : Fn2 P w K mg base "greatest_cuts" 5 ["some", "bounds"] (sp_greatest_cuts c) :=
  ⟨f, fd, fo_greatest_cuts c F  G_rests_behind G_is_within b_zip b_max , hm, F.kp, F.binds fun _ _ _ _ _ _ us hl => match us, hl with | [_, _], _ => rfl⟩
abbrev s_cuts : Stmt := top 13
theorem sc_cuts : FnScope ["marks", "bounds", "some", "lists"] ["marks", "bounds"] (defScope s_cuts) := ⟨rfl, rfl, rfl, by decide +kernel, rfl, by decide +kernel, by decide +kernel⟩
theorem d_cuts {f : Addr} {cdv : Value} {A : Around} {outer : List Env} {s : Shared} {H : Hp} {E : XK} {F0 : Hp} (c : Cls) (hr : Room 5 (A.deeper (envOfC "cuts" (defScope s_cuts) s.heap.objs.size f cdv))) (G_Barred___init__ : Xk2 P w K mg base "Barred" c.Barred "reach" 4 ["self", "reach"] (sp_Barred c)) (G_ends : Fn2 P w K mg base "ends" 3 ["marks"] (sp_ends c)) (G_reach : Fn2 P w K mg base "reach" 3 ["some", "bounds"] (sp_reach c)) (G_greatest_cuts : Fn2 P w K mg base "greatest_cuts" 5 ["some", "bounds"] (sp_greatest_cuts c)) (b_len : mg "len" = none) : QSs (cxOf (CX1 P w) P w K mg base ["marks", "bounds", "some", "lists"] "cuts" (defScope s_cuts) f cdv A outer s H E) F0 H (defBody s_cuts) (rd_cuts K c ) := by
  have nd := sc_cuts.nd
  have hu : (A.deeper (envOfC "cuts" (defScope s_cuts) s.heap.objs.size f cdv)).units + 21 < cLine := by have := hr.units; omega
  exact (qss_cons (by exact (qs_set (i := 2) nd rfl (by trivial) (by exact (qe_callF G_ends (hr.mono (by decide)) rfl (qa_cons (qe_var (i := 0) rfl (by trivial)) qa_nil)))))
 (by exact (qss_cons (by exact (qs_set (i := 3) nd rfl (by trivial) (by exact (qe_callF G_reach (hr.mono (by decide)) rfl (qa_cons (qe_var (i := 2) rfl (by trivial)) (qa_cons (qe_var (i := 1) rfl (by trivial)) qa_nil))))))
 (by exact (qss_cons (by exact (qs_if (by exact (qt_cmp (fun _ => o_nin) (qe_callB (fun _ => q_len) rfl b_len boot_len (qa_cons (qe_var (i := 0) rfl (by trivial)) qa_nil)) (qe_ix (qe_var (i := 3) rfl (by trivial)) (qe_neg qe_int) (fun _ _ => rfl)) (by with_unfolding_all rfl)))
 (by exact (qss_one (by exact (qs_raiseX rfl G_Barred___init__ (hr.mono (by decide)) rfl (qa_cons (qe_var (i := 3) rfl (by trivial)) qa_nil)))))
 (by exact qss_nil)))
 (by exact (qss_one (by exact (qs_ret (by exact (qe_callF G_greatest_cuts (hr.mono (by decide)) rfl (qa_cons (qe_var (i := 2) rfl (by trivial)) (qa_cons (qe_var (i := 1) rfl (by trivial)) qa_nil)))))))))))))
theorem fo_cuts {f : Addr} {fd : FuncData} (c : Cls) (F : Fun K "cuts" "cuts" s_cuts f fd) (G_Barred___init__ : Xk2 P w K mg base "Barred" c.Barred "reach" 4 ["self", "reach"] (sp_Barred c)) (G_ends : Fn2 P w K mg base "ends" 3 ["marks"] (sp_ends c)) (G_reach : Fn2 P w K mg base "reach" 3 ["some", "bounds"] (sp_reach c)) (G_greatest_cuts : Fn2 P w K mg base "greatest_cuts" 5 ["some", "bounds"] (sp_greatest_cuts c)) (b_len : mg "len" = none)  : FnOk P w K mg base (CX1 P w) 6 f fd ["marks", "bounds"] (spUp K (sp_cuts c)) :=
  fn2 F sc_cuts (fun _ _ _ h => l_cuts h) fun cdv A outer s H E hr F0 => ⟨rd_cuts K c , d_cuts c hr G_Barred___init__ G_ends G_reach G_greatest_cuts b_len, fun ds Q Ex h => r_cuts  h⟩
theorem ok_cuts {f : Addr} {fd : FuncData} (c : Cls) (F : Fun K "cuts" "cuts" s_cuts f fd) (hm : mg "cuts" = some (.ref f)) (G_Barred___init__ : Xk2 P w K mg base "Barred" c.Barred "reach" 4 ["self", "reach"] (sp_Barred c)) (G_ends : Fn2 P w K mg base "ends" 3 ["marks"] (sp_ends c)) (G_reach : Fn2 P w K mg base "reach" 3 ["some", "bounds"] (sp_reach c)) (G_greatest_cuts : Fn2 P w K mg base "greatest_cuts" 5 ["some", "bounds"] (sp_greatest_cuts c)) (b_len : mg "len" = none)  : Fn2 P w K mg base "cuts" 6 ["marks", "bounds"] (sp_cuts c) :=
  ⟨f, fd, fo_cuts c F  G_Barred___init__ G_ends G_reach G_greatest_cuts b_len , hm, F.kp, F.binds fun _ _ _ _ _ _ us hl => match us, hl with | [_, _], _ => rfl⟩
abbrev s_law_told : Stmt := top 30
theorem sc_law_told : FnScope ["_law_marks_here", "_law_bounds_here", "_law_told_here", "e"] ["_law_marks_here", "_law_bounds_here"] (defScope s_law_told) := ⟨rfl, rfl, rfl, by decide +kernel, rfl, by decide +kernel, by decide +kernel⟩
theorem d_law_told {f : Addr} {cdv : Value} {A : Around} {outer : List Env} {s : Shared} {H : Hp} {E : XK} {F0 : Hp} (c : Cls) (hr : Room 6 (A.deeper (envOfC "_law_told" (defScope s_law_told) s.heap.objs.size f cdv))) (G_cuts : Fn2 P w K mg base "cuts" 6 ["marks", "bounds"] (sp_cuts c)) (b_isinstance : mg "isinstance" = none) (b_ValueError : mg "ValueError" = none) (e_HallError : mg "HallError" = some (.ref c.HallError) ∧ ExcC K c.HallError) (e_Barred : mg "Barred" = some (.ref c.Barred) ∧ clsB K c.Barred = true) (e_NoScale : mg "NoScale" = some (.ref c.NoScale) ∧ ExcC K c.NoScale) (e_Open : mg "Open" = some (.ref c.Open) ∧ clsB K c.Open = true) : QSs (cxOf (CX1 P w) P w K mg base ["_law_marks_here", "_law_bounds_here", "_law_told_here", "e"] "_law_told" (defScope s_law_told) f cdv A outer s H E) F0 H (defBody s_law_told) (rd_law_told K c ) := by
  have nd := sc_law_told.nd
  have hu : (A.deeper (envOfC "_law_told" (defScope s_law_told) s.heap.objs.size f cdv)).units + 21 < cLine := by have := hr.units; omega
  exact (qss_cons (by exact (qs_set (i := 2) nd rfl (by trivial) (by exact qe_non)))
 (by exact (qss_cons (by exact (qs_tryA (i := 3) rfl rfl rfl nd rfl rfl rfl e_HallError.1 e_HallError.2 (fun F0 => by exact (qss_one (by exact (qs_set (i := 2) nd rfl (by trivial) (by exact (qe_callF G_cuts (hr.mono (by decide)) rfl (qa_cons (qe_var (i := 0) rfl (by trivial)) (qa_cons (qe_var (i := 1) rfl (by trivial)) qa_nil))))))))
 (fun a F0 => by exact (qss_one (by exact (qs_if (by exact (qt_w (qw_and (qt_val (qe_isx (qe_var (i := 3) rfl (by trivial)) rfl b_isinstance rfl ⟨e_Barred.1, e_Barred.2⟩)) (qw_and (qt_val (qe_isv (qe_var (i := 3) rfl (by trivial)) rfl b_isinstance rfl b_ValueError)) (qw_and1 (qt_not (qt_val (qe_ist (pcl_cons rfl e_NoScale.1 (pcl_cons rfl e_Open.1 pcl_nil)) (by intro C hC; simp only [List.mem_cons, List.not_mem_nil, or_false] at hC; rcases hC with rfl | rfl <;> first | exact (clsB_exc e_NoScale.2) | exact e_Open.2) (qe_var (i := 3) rfl (by trivial)) rfl b_isinstance (hl := (by show (2 : Nat) ≤ sizeLine; decide))))))))))
 (by exact (qss_one (by exact (qs_set (i := 2) nd rfl (by trivial) (by exact qe_bl)))))
 (by exact qss_nil)))))))
 (by exact (qss_one (by exact (qs_ret (by exact (qe_var (i := 2) rfl (by trivial))))))))))
theorem fo_law_told {f : Addr} {fd : FuncData} (c : Cls) (F : Fun K "_law_told" "_law_told" s_law_told f fd) (G_cuts : Fn2 P w K mg base "cuts" 6 ["marks", "bounds"] (sp_cuts c)) (b_isinstance : mg "isinstance" = none) (b_ValueError : mg "ValueError" = none) (e_HallError : mg "HallError" = some (.ref c.HallError) ∧ ExcC K c.HallError) (e_Barred : mg "Barred" = some (.ref c.Barred) ∧ clsB K c.Barred = true) (e_NoScale : mg "NoScale" = some (.ref c.NoScale) ∧ ExcC K c.NoScale) (e_Open : mg "Open" = some (.ref c.Open) ∧ clsB K c.Open = true) (xik_BarredT : excB K c.Barred = true) (g1_Barred : PySem.W.findIn K (.ref c.Barred) "__getattribute__" = some (some (.builtin "BaseException.__getattribute__"))) (g2_Barred : PySem.W.findIn K (.ref c.Barred) "__getattr__" = some none) (g3_Barred : PySem.W.findIn K (.ref c.Barred) "__class__" = some (some (.builtin "object.__class__"))) (g4_Barred : PySem.W.mroIn K c.Barred (.type "object") = some true) (g5_Barred : PySem.W.mroIn K c.Barred (.type "BaseException") = some true) (v_Barred : PySem.W.mroIn K c.Barred (.type "ValueError") = some true) (s_Barred_HallError : excSub K c.Barred c.HallError = true) (s_Barred_Barred : excSub K c.Barred c.Barred = true) (s_Barred_NoScale : excSub K c.Barred c.NoScale = false) (s_Barred_Open : excSub K c.Barred c.Open = false) : FnOk P w K mg base (CX1 P w) 7 f fd ["_law_marks_here", "_law_bounds_here"] (spUp K (sp_law_told c)) :=
  fn2 F sc_law_told (fun _ _ _ h => l_law_told h) fun cdv A outer s H E hr F0 => ⟨rd_law_told K c , d_law_told c hr G_cuts b_isinstance b_ValueError e_HallError e_Barred e_NoScale e_Open, fun ds Q Ex h => r_law_told ⟨xik_BarredT, ⟨g1_Barred, g2_Barred, g3_Barred, g4_Barred, g5_Barred⟩, ve_of v_Barred, s_Barred_HallError, s_Barred_Barred, s_Barred_NoScale, s_Barred_Open⟩ h⟩
theorem ok_law_told {f : Addr} {fd : FuncData} (c : Cls) (F : Fun K "_law_told" "_law_told" s_law_told f fd) (hm : mg "_law_told" = some (.ref f)) (G_cuts : Fn2 P w K mg base "cuts" 6 ["marks", "bounds"] (sp_cuts c)) (b_isinstance : mg "isinstance" = none) (b_ValueError : mg "ValueError" = none) (e_HallError : mg "HallError" = some (.ref c.HallError) ∧ ExcC K c.HallError) (e_Barred : mg "Barred" = some (.ref c.Barred) ∧ clsB K c.Barred = true) (e_NoScale : mg "NoScale" = some (.ref c.NoScale) ∧ ExcC K c.NoScale) (e_Open : mg "Open" = some (.ref c.Open) ∧ clsB K c.Open = true) (xik_BarredT : excB K c.Barred = true) (g1_Barred : PySem.W.findIn K (.ref c.Barred) "__getattribute__" = some (some (.builtin "BaseException.__getattribute__"))) (g2_Barred : PySem.W.findIn K (.ref c.Barred) "__getattr__" = some none) (g3_Barred : PySem.W.findIn K (.ref c.Barred) "__class__" = some (some (.builtin "object.__class__"))) (g4_Barred : PySem.W.mroIn K c.Barred (.type "object") = some true) (g5_Barred : PySem.W.mroIn K c.Barred (.type "BaseException") = some true) (v_Barred : PySem.W.mroIn K c.Barred (.type "ValueError") = some true) (s_Barred_HallError : excSub K c.Barred c.HallError = true) (s_Barred_Barred : excSub K c.Barred c.Barred = true) (s_Barred_NoScale : excSub K c.Barred c.NoScale = false) (s_Barred_Open : excSub K c.Barred c.Open = false) : Fn2 P w K mg base "_law_told" 7 ["_law_marks_here", "_law_bounds_here"] (sp_law_told c) :=
  ⟨f, fd, fo_law_told c F  G_cuts b_isinstance b_ValueError e_HallError e_Barred e_NoScale e_Open xik_BarredT g1_Barred g2_Barred g3_Barred g4_Barred g5_Barred v_Barred s_Barred_HallError s_Barred_Barred s_Barred_NoScale s_Barred_Open, hm, F.kp, F.binds fun _ _ _ _ _ _ us hl => match us, hl with | [_, _], _ => rfl⟩
abbrev s_law_less : Stmt := top 22
theorem sc_law_less : FnScope ["_law_one", "_law_other"] ["_law_one", "_law_other"] (defScope s_law_less) := ⟨rfl, rfl, rfl, by decide +kernel, rfl, by decide +kernel, by decide +kernel⟩
theorem d_law_less {f : Addr} {cdv : Value} {A : Around} {outer : List Env} {s : Shared} {H : Hp} {E : XK} {F0 : Hp} (c : Cls) (hr : Room 0 (A.deeper (envOfC "_law_less" (defScope s_law_less) s.heap.objs.size f cdv)))  : QSs (cxOf (CX1 P w) P w K mg base ["_law_one", "_law_other"] "_law_less" (defScope s_law_less) f cdv A outer s H E) F0 H (defBody s_law_less) (rd_law_less K c ) := by
  have nd := sc_law_less.nd
  have hu : (A.deeper (envOfC "_law_less" (defScope s_law_less) s.heap.objs.size f cdv)).units + 21 < cLine := by have := hr.units; omega
  exact (qss_one (by exact (qs_ret (by exact (qe_cmp (fun _ => o_lt) (qe_bin (fun _ => o_mul) (qe_ix (qe_var (i := 0) rfl (by trivial)) qe_int (fun _ _ => rfl)) (qe_ix (qe_var (i := 1) rfl (by trivial)) qe_int (fun _ _ => rfl))) (qe_bin (fun _ => o_mul) (qe_ix (qe_var (i := 1) rfl (by trivial)) qe_int (fun _ _ => rfl)) (qe_ix (qe_var (i := 0) rfl (by trivial)) qe_int (fun _ _ => rfl))) (nomark _))))))
theorem fo_law_less {f : Addr} {fd : FuncData} (c : Cls) (F : Fun K "_law_less" "_law_less" s_law_less f fd)   : FnOk P w K mg base (CX1 P w) 1 f fd ["_law_one", "_law_other"] (spUp K (sp_law_less c)) :=
  fn2 F sc_law_less (fun _ _ _ h => l_law_less h) fun cdv A outer s H E hr F0 => ⟨rd_law_less K c , d_law_less c hr , fun ds Q Ex h => r_law_less  h⟩
theorem ok_law_less {f : Addr} {fd : FuncData} (c : Cls) (F : Fun K "_law_less" "_law_less" s_law_less f fd) (hm : mg "_law_less" = some (.ref f))   : Fn2 P w K mg base "_law_less" 1 ["_law_one", "_law_other"] (sp_law_less c) :=
  ⟨f, fd, fo_law_less c F   , hm, F.kp, F.binds fun _ _ _ _ _ _ us hl => match us, hl with | [_, _], _ => rfl⟩
abbrev s_law_sorted : Stmt := top 23
theorem sc_law_sorted : FnScope ["_law_some", "_law_ordered", "_law_one", "_law_at"] ["_law_some"] (defScope s_law_sorted) := ⟨rfl, rfl, rfl, by decide +kernel, rfl, by decide +kernel, by decide +kernel⟩
theorem d_law_sorted {f : Addr} {cdv : Value} {A : Around} {outer : List Env} {s : Shared} {H : Hp} {E : XK} {F0 : Hp} (c : Cls) (hr : Room 1 (A.deeper (envOfC "_law_sorted" (defScope s_law_sorted) s.heap.objs.size f cdv))) (G_law_less : Fn2 P w K mg base "_law_less" 1 ["_law_one", "_law_other"] (sp_law_less c)) (b_len : mg "len" = none) : QSs (cxOf (CX1 P w) P w K mg base ["_law_some", "_law_ordered", "_law_one", "_law_at"] "_law_sorted" (defScope s_law_sorted) f cdv A outer s H E) F0 H (defBody s_law_sorted) (rd_law_sorted K c ) := by
  have nd := sc_law_sorted.nd
  have hu : (A.deeper (envOfC "_law_sorted" (defScope s_law_sorted) s.heap.objs.size f cdv)).units + 21 < cLine := by have := hr.units; omega
  exact (qss_cons (by exact (qs_setF (i := 1) nd rfl (by trivial) (by exact (qf_lst qa_nil))))
 (by exact (qss_cons (by exact (qs_for rfl (by exact (qe_var (i := 0) rfl (by trivial))) (by exact (qg_name (i := 2) nd rfl (by trivial)))
 (by exact (qss_cons (by exact (qs_set (i := 3) nd rfl (by trivial) (by exact qe_int)))
 (by exact (qss_cons (by exact (qs_while (by exact (qt_peek (fun F0 H0 => by exact (qt_w (qw_and (qt_cmp (fun _ => o_lt) (qe_var (i := 3) rfl (by trivial)) (qe_callB (fun _ => q_len) rfl b_len boot_len (qa_cons (qe_var (i := 1) rfl (by trivial)) qa_nil)) (nomark _)) (qw_and1 (qt_not (qt_val (qe_callF G_law_less (hr.mono (by decide)) rfl (qa_cons (qe_var (i := 2) rfl (by trivial)) (qa_cons (qe_ix (qe_var (i := 1) rfl (by trivial)) (qe_var (i := 3) rfl (by trivial)) (fun _ _ => rfl)) qa_nil)))))))))))
 (by exact (qss_one (by exact (qs_set (i := 3) nd rfl (by trivial) (by exact (qe_bin (fun _ => o_add) (qe_var (i := 3) rfl (by trivial)) qe_int))))))))
 (by exact (qss_one (by exact (qs_own (i := 1) (fun _ => ow_insert) PySem.F.slot_list_insert PySem.F.type_list_insert rfl (by trivial) (by exact (qa_cons (qe_var (i := 3) rfl (by trivial)) (qa_cons (qe_var (i := 2) rfl (by trivial)) qa_nil)))))))))))))
 (by exact (qss_one (by exact (qs_ret (by exact (qe_var (i := 1) rfl (by trivial))))))))))
theorem fo_law_sorted {f : Addr} {fd : FuncData} (c : Cls) (F : Fun K "_law_sorted" "_law_sorted" s_law_sorted f fd) (G_law_less : Fn2 P w K mg base "_law_less" 1 ["_law_one", "_law_other"] (sp_law_less c)) (b_len : mg "len" = none)  : FnOk P w K mg base (CX1 P w) 2 f fd ["_law_some"] (spUp K (sp_law_sorted c)) :=
  fn2 F sc_law_sorted (fun _ _ _ h => l_law_sorted h) fun cdv A outer s H E hr F0 => ⟨rd_law_sorted K c , d_law_sorted c hr G_law_less b_len, fun ds Q Ex h => r_law_sorted  h⟩
theorem ok_law_sorted {f : Addr} {fd : FuncData} (c : Cls) (F : Fun K "_law_sorted" "_law_sorted" s_law_sorted f fd) (hm : mg "_law_sorted" = some (.ref f)) (G_law_less : Fn2 P w K mg base "_law_less" 1 ["_law_one", "_law_other"] (sp_law_less c)) (b_len : mg "len" = none)  : Fn2 P w K mg base "_law_sorted" 2 ["_law_some"] (sp_law_sorted c) :=
  ⟨f, fd, fo_law_sorted c F  G_law_less b_len , hm, F.kp, F.binds fun _ _ _ _ _ _ us hl => match us, hl with | [_], _ => rfl⟩
abbrev s_law_ends : Stmt := top 28
theorem sc_law_ends : FnScope ["_law_marks_here", "_law_falling", "_law_due", "_law_k"] ["_law_marks_here"] (defScope s_law_ends) := ⟨rfl, rfl, rfl, by decide +kernel, rfl, by decide +kernel, by decide +kernel⟩
theorem d_law_ends {f : Addr} {cdv : Value} {A : Around} {outer : List Env} {s : Shared} {H : Hp} {E : XK} {F0 : Hp} (c : Cls) (hr : Room 2 (A.deeper (envOfC "_law_ends" (defScope s_law_ends) s.heap.objs.size f cdv))) (G_law_sorted : Fn2 P w K mg base "_law_sorted" 2 ["_law_some"] (sp_law_sorted c)) (G_law_less : Fn2 P w K mg base "_law_less" 1 ["_law_one", "_law_other"] (sp_law_less c)) (b_range : mg "range" = none) (b_len : mg "len" = none) : QSs (cxOf (CX1 P w) P w K mg base ["_law_marks_here", "_law_falling", "_law_due", "_law_k"] "_law_ends" (defScope s_law_ends) f cdv A outer s H E) F0 H (defBody s_law_ends) (rd_law_ends K c ) := by
  have nd := sc_law_ends.nd
  have hu : (A.deeper (envOfC "_law_ends" (defScope s_law_ends) s.heap.objs.size f cdv)).units + 21 < cLine := by have := hr.units; omega
  exact (qss_cons (by exact (qs_set (i := 1) nd rfl (by trivial) (by exact (qe_of (by exact (qf_rev (qe_callF G_law_sorted (hr.mono (by decide)) rfl (qa_cons (qe_var (i := 0) rfl (by trivial)) qa_nil))))))))
 (by exact (qss_cons (by exact (qs_setF (i := 2) nd rfl (by trivial) (by exact (qf_lst (qa_cons qe_int qa_nil)))))
 (by exact (qss_cons (by exact (qs_rng1 rfl rfl b_range (by exact (qa_cons (qe_callB (fun _ => q_len) rfl b_len boot_len (qa_cons (qe_var (i := 1) rfl (by trivial)) qa_nil)) qa_nil)) (by exact (qg_name (i := 3) nd rfl (by trivial)))
 (by exact (qss_one (by exact (qs_if (by exact (qt_w (qw_or (qt_cmp (fun _ => o_eq hu) (qe_bin (fun _ => o_add) (qe_var (i := 3) rfl (by trivial)) qe_int) (qe_callB (fun _ => q_len) rfl b_len boot_len (qa_cons (qe_var (i := 1) rfl (by trivial)) qa_nil)) (nomark _)) (qw_or1 (qt_val (qe_callF G_law_less (hr.mono (by decide)) rfl (qa_cons (qe_ix (qe_var (i := 1) rfl (by trivial)) (qe_bin (fun _ => o_add) (qe_var (i := 3) rfl (by trivial)) qe_int) (fun _ _ => rfl)) (qa_cons (qe_ix (qe_var (i := 1) rfl (by trivial)) (qe_var (i := 3) rfl (by trivial)) (fun _ _ => rfl)) qa_nil))))))))
 (by exact (qss_one (by exact (qs_own (i := 2) (fun _ => ow_append) PySem.F.slot_list_append PySem.F.type_list_append rfl (by trivial) (by exact (qa_cons (qe_bin (fun _ => o_add) (qe_var (i := 3) rfl (by trivial)) qe_int) qa_nil))))))
 (by exact qss_nil)))))))
 (by exact (qss_one (by exact (qs_ret (by exact (qe_var (i := 2) rfl (by trivial))))))))))))
theorem fo_law_ends {f : Addr} {fd : FuncData} (c : Cls) (F : Fun K "_law_ends" "_law_ends" s_law_ends f fd) (G_law_sorted : Fn2 P w K mg base "_law_sorted" 2 ["_law_some"] (sp_law_sorted c)) (G_law_less : Fn2 P w K mg base "_law_less" 1 ["_law_one", "_law_other"] (sp_law_less c)) (b_range : mg "range" = none) (b_len : mg "len" = none)  : FnOk P w K mg base (CX1 P w) 3 f fd ["_law_marks_here"] (spUp K (sp_law_ends c)) :=
  fn2 F sc_law_ends (fun _ _ _ h => l_law_ends h) fun cdv A outer s H E hr F0 => ⟨rd_law_ends K c , d_law_ends c hr G_law_sorted G_law_less b_range b_len, fun ds Q Ex h => r_law_ends  h⟩
theorem ok_law_ends {f : Addr} {fd : FuncData} (c : Cls) (F : Fun K "_law_ends" "_law_ends" s_law_ends f fd) (hm : mg "_law_ends" = some (.ref f)) (G_law_sorted : Fn2 P w K mg base "_law_sorted" 2 ["_law_some"] (sp_law_sorted c)) (G_law_less : Fn2 P w K mg base "_law_less" 1 ["_law_one", "_law_other"] (sp_law_less c)) (b_range : mg "range" = none) (b_len : mg "len" = none)  : Fn2 P w K mg base "_law_ends" 3 ["_law_marks_here"] (sp_law_ends c) :=
  ⟨f, fd, fo_law_ends c F  G_law_sorted G_law_less b_range b_len , hm, F.kp, F.binds fun _ _ _ _ _ _ us hl => match us, hl with | [_], _ => rfl⟩
abbrev s_law_leading : Stmt := top 29
theorem sc_law_leading : FnScope ["_law_some", "_law_bounds_here", "_law_good", "_law_least", "_law_most", "_law_later"] ["_law_some", "_law_bounds_here"] (defScope s_law_leading) := ⟨rfl, rfl, rfl, by decide +kernel, rfl, by decide +kernel, by decide +kernel⟩
theorem d_law_leading {f : Addr} {cdv : Value} {A : Around} {outer : List Env} {s : Shared} {H : Hp} {E : XK} {F0 : Hp} (c : Cls) (hr : Room 0 (A.deeper (envOfC "_law_leading" (defScope s_law_leading) s.heap.objs.size f cdv)))  : QSs (cxOf (CX1 P w) P w K mg base ["_law_some", "_law_bounds_here", "_law_good", "_law_least", "_law_most", "_law_later"] "_law_leading" (defScope s_law_leading) f cdv A outer s H E) F0 H (defBody s_law_leading) (rd_law_leading K c ) := by
  have nd := sc_law_leading.nd
  have hu : (A.deeper (envOfC "_law_leading" (defScope s_law_leading) s.heap.objs.size f cdv)).units + 21 < cLine := by have := hr.units; omega
  exact (qss_cons (by exact (qs_setF (i := 2) nd rfl (by trivial) (by exact (qf_lst (qa_cons (qe_of (by exact (qf_lst (qa_cons (qe_ix (qe_var (i := 0) rfl (by trivial)) (qe_neg qe_int) (fun _ _ => rfl)) qa_nil)))) qa_nil)))))
 (by exact (qss_cons (by exact (qs_for rfl (by exact (qe_of (by exact (qf_rev (qe_var (i := 1) rfl (by trivial)))))) (by exact (qg_tup rfl (qgs_cons (qg_name (i := 3) nd rfl (by trivial)) (qgs_cons (qg_name (i := 4) nd rfl (by trivial)) qgs_nil))))
 (by exact (qss_cons (by exact (qs_set (i := 5) nd rfl (by trivial) (by exact (qe_ixO (i := 2) rfl (by trivial) (qe_neg qe_int) (fun _ _ => rfl)))))
 (by exact (qss_one (by exact (qs_own (i := 2) (fun _ => ow_append) PySem.F.slot_list_append PySem.F.type_list_append rfl (by trivial) (by exact (qa_cons (qe_of (by exact (qf_comp (own := ["_law_end"]) (N' := ["_law_end", "_law_least", "_law_most", "_law_later"]) (by show CpOk ["_law_some", "_law_bounds_here", "_law_good", "_law_least", "_law_most", "_law_later"] _ ["_law_end"] [3, 4, 5] (defScope s_law_leading) ["_law_end", "_law_least", "_law_most", "_law_later"]; exact ⟨rfl, by decide +kernel, by decide +kernel, by decide +kernel, rfl, by decide +kernel⟩) rfl (by exact (qic (qi_seq (qe_var (i := 0) rfl (by trivial))))) (fun C s₀ H₀ fp F0 H0 => by exact (qg_name (i := 0) (show (["_law_end", "_law_least", "_law_most", "_law_later"] : List Str).Nodup by decide +kernel) rfl (by trivial))) (fun C s₀ H₀ fp F0 H0 => by exact (qts_one (qt_cmp (fun _ => o_ne hu) (qe_of (by exact (qf_comp (own := ["_law_one"]) (N' := ["_law_one", "_law_end", "_law_least", "_law_most"]) (by show CpOk ["_law_end", "_law_least", "_law_most", "_law_later"] _ ["_law_one"] [0, 1, 2] (relabelS _ (defScope s_law_leading)) ["_law_one", "_law_end", "_law_least", "_law_most"]; exact ⟨rfl, by decide +kernel, by decide +kernel, by decide +kernel, rfl, by decide +kernel⟩) rfl (by exact (qic (qi_seq (qe_var (i := 3) rfl (by trivial))))) (fun C s₀ H₀ fp F0 H0 => by exact (qg_name (i := 0) (show (["_law_one", "_law_end", "_law_least", "_law_most"] : List Str).Nodup by decide +kernel) rfl (by trivial))) (fun C s₀ H₀ fp F0 H0 => by exact (qts_one (qt_chain (fun _ => o_le) (fun _ => o_le) (qe_var (i := 2) rfl (by trivial)) (qe_bin (fun _ => o_sub) (qe_var (i := 0) rfl (by trivial)) (qe_var (i := 1) rfl (by trivial))) (qe_var (i := 3) rfl (by trivial))))) (fun C s₀ H₀ fp F0 H0 => by exact (qe_var (i := 0) rfl (by trivial)))))) (qe_of (by exact (qf_lst qa_nil))) (nomark _)))) (fun C s₀ H₀ fp F0 H0 => by exact (qe_var (i := 0) rfl (by trivial)))))) qa_nil))))))))))
 (by exact (qss_one (by exact (qs_ret (by exact (qe_of (by exact (qf_rev (qe_var (i := 2) rfl (by trivial)))))))))))))
theorem fo_law_leading {f : Addr} {fd : FuncData} (c : Cls) (F : Fun K "_law_leading" "_law_leading" s_law_leading f fd)   : FnOk P w K mg base (CX1 P w) 1 f fd ["_law_some", "_law_bounds_here"] (spUp K (sp_law_leading c)) :=
  fn2 F sc_law_leading (fun _ _ _ h => l_law_leading h) fun cdv A outer s H E hr F0 => ⟨rd_law_leading K c , d_law_leading c hr , fun ds Q Ex h => r_law_leading  h⟩
theorem ok_law_leading {f : Addr} {fd : FuncData} (c : Cls) (F : Fun K "_law_leading" "_law_leading" s_law_leading f fd) (hm : mg "_law_leading" = some (.ref f))   : Fn2 P w K mg base "_law_leading" 1 ["_law_some", "_law_bounds_here"] (sp_law_leading c) :=
  ⟨f, fd, fo_law_leading c F   , hm, F.kp, F.binds fun _ _ _ _ _ _ us hl => match us, hl with | [_, _], _ => rfl⟩
abbrev s_law_wide : Stmt := top 32
theorem sc_law_wide : FnScope ["_law_script", "_law_cell_here", "_law_some", "_law_number", "_law_marks_here", "_law_k", "_law_x"] ["_law_script"] (defScope s_law_wide) := ⟨rfl, rfl, rfl, by decide +kernel, rfl, by decide +kernel, by decide +kernel⟩
theorem d_law_wide {f : Addr} {cdv : Value} {A : Around} {outer : List Env} {s : Shared} {H : Hp} {E : XK} {F0 : Hp} (c : Cls) (hr : Room 3 (A.deeper (envOfC "_law_wide" (defScope s_law_wide) s.heap.objs.size f cdv))) (G_law_cell : Fn2 P w K mg base "_law_cell" 1 ["_law_script", "_law_k"] (sp_law_cell c)) (G_law_marks : Fn2 P w K mg base "_law_marks" 3 ["_law_script", "_law_first", "_law_many"] (sp_law_marks c)) (b_range : mg "range" = none) (b_len : mg "len" = none) : QSs (cxOf (CX1 P w) P w K mg base ["_law_script", "_law_cell_here", "_law_some", "_law_number", "_law_marks_here", "_law_k", "_law_x"] "_law_wide" (defScope s_law_wide) f cdv A outer s H E) F0 H (defBody s_law_wide) (rd_law_wide K c ) := by
  have nd := sc_law_wide.nd
  have hu : (A.deeper (envOfC "_law_wide" (defScope s_law_wide) s.heap.objs.size f cdv)).units + 21 < cLine := by have := hr.units; omega
  exact (qss_cons (by exact (qs_set (i := 1) nd rfl (by trivial) (by exact (qe_callF G_law_cell (hr.mono (by decide)) rfl (qa_cons (qe_var (i := 0) rfl (by trivial)) (qa_cons qe_int qa_nil))))))
 (by exact (qss_cons (by exact (qs_set (i := 2) nd rfl (by trivial) (by exact (qe_callF G_law_marks (hr.mono (by decide)) rfl (qa_cons (qe_var (i := 0) rfl (by trivial)) (qa_cons qe_int (qa_cons (qe_bin (fun _ => o_add) qe_int (qe_bin (fun _ => o_mod) (qe_bin (fun _ => o_div) (qe_var (i := 1) rfl (by trivial)) qe_int) qe_int)) qa_nil)))))))
 (by exact (qss_cons (by exact (qs_set (i := 3) nd rfl (by trivial) (by exact (qe_bin (fun _ => o_div) (qe_var (i := 1) rfl (by trivial)) qe_int))))
 (by exact (qss_cons (by exact (qs_setF (i := 4) nd rfl (by trivial) (by exact (qf_lst qa_nil))))
 (by exact (qss_cons (by exact (qs_rng1 rfl rfl b_range (by exact (qa_cons (qe_bin (fun _ => o_add) qe_int (qe_bin (fun _ => o_mod) (qe_bin (fun _ => o_div) (qe_var (i := 1) rfl (by trivial)) qe_int) qe_int)) qa_nil)) (by exact (qg_name (i := 5) nd rfl (by trivial)))
 (by exact (qss_cons (by exact (qs_set (i := 6) nd rfl (by trivial) (by exact (qe_bin (fun _ => o_mod) (qe_var (i := 3) rfl (by trivial)) qe_int))))
 (by exact (qss_cons (by exact (qs_if (by exact (qt_cmp (fun _ => o_eq hu) (qe_bin (fun _ => o_mod) (qe_var (i := 1) rfl (by trivial)) qe_int) qe_int (nomark _)))
 (by exact (qss_cons (by exact (qs_set (i := 3) nd rfl (by trivial) (by exact (qe_bin (fun _ => o_mod) (qe_bin (fun _ => o_add) (qe_bin (fun _ => o_mul) (qe_var (i := 3) rfl (by trivial)) qe_int) qe_int) qe_int))))
 (by exact (qss_one (by exact (qs_set (i := 6) nd rfl (by trivial) (by exact (qe_bin (fun _ => o_mod) (qe_bin (fun _ => o_mul) (qe_var (i := 3) rfl (by trivial)) qe_int) qe_int))))))))
 (by exact (qss_one (by exact (qs_set (i := 3) nd rfl (by trivial) (by exact (qe_bin (fun _ => o_div) (qe_var (i := 3) rfl (by trivial)) qe_int))))))))
 (by exact (qss_one (by exact (qs_own (i := 4) (fun _ => ow_append) PySem.F.slot_list_append PySem.F.type_list_append rfl (by trivial) (by exact (qa_cons (qe_ix (qe_var (i := 2) rfl (by trivial)) (qe_bin (fun _ => o_mod) (qe_var (i := 6) rfl (by trivial)) (qe_callB (fun _ => q_len) rfl b_len boot_len (qa_cons (qe_var (i := 2) rfl (by trivial)) qa_nil))) (fun _ _ => rfl)) qa_nil))))))))))))
 (by exact (qss_one (by exact (qs_ret (by exact (qe_var (i := 4) rfl (by trivial))))))))))))))))
theorem fo_law_wide {f : Addr} {fd : FuncData} (c : Cls) (F : Fun K "_law_wide" "_law_wide" s_law_wide f fd) (G_law_cell : Fn2 P w K mg base "_law_cell" 1 ["_law_script", "_law_k"] (sp_law_cell c)) (G_law_marks : Fn2 P w K mg base "_law_marks" 3 ["_law_script", "_law_first", "_law_many"] (sp_law_marks c)) (b_range : mg "range" = none) (b_len : mg "len" = none)  : FnOk P w K mg base (CX1 P w) 4 f fd ["_law_script"] (spUp K (sp_law_wide c)) :=
  fn2 F sc_law_wide (fun _ _ _ h => l_law_wide h) fun cdv A outer s H E hr F0 => ⟨rd_law_wide K c , d_law_wide c hr G_law_cell G_law_marks b_range b_len, fun ds Q Ex h => r_law_wide  h⟩
theorem ok_law_wide {f : Addr} {fd : FuncData} (c : Cls) (F : Fun K "_law_wide" "_law_wide" s_law_wide f fd) (hm : mg "_law_wide" = some (.ref f)) (G_law_cell : Fn2 P w K mg base "_law_cell" 1 ["_law_script", "_law_k"] (sp_law_cell c)) (G_law_marks : Fn2 P w K mg base "_law_marks" 3 ["_law_script", "_law_first", "_law_many"] (sp_law_marks c)) (b_range : mg "range" = none) (b_len : mg "len" = none)  : Fn2 P w K mg base "_law_wide" 4 ["_law_script"] (sp_law_wide c) :=
  ⟨f, fd, fo_law_wide c F  G_law_cell G_law_marks b_range b_len , hm, F.kp, F.binds fun _ _ _ _ _ _ us hl => match us, hl with | [_], _ => rfl⟩
abbrev s_law_greatest : Stmt := top 31
theorem sc_law_greatest : FnScope ["_law_told_here", "_law_some", "_law_bounds_here", "_law_good", "_law_ahead", "_law_k", "_law_least", "_law_most", "_law_fitting"] ["_law_told_here", "_law_some", "_law_bounds_here", "_law_good"] (defScope s_law_greatest) := ⟨rfl, rfl, rfl, by decide +kernel, rfl, by decide +kernel, by decide +kernel⟩
theorem d_law_greatest {f : Addr} {cdv : Value} {A : Around} {outer : List Env} {s : Shared} {H : Hp} {E : XK} {F0 : Hp} (c : Cls) (hr : Room 0 (A.deeper (envOfC "_law_greatest" (defScope s_law_greatest) s.heap.objs.size f cdv))) (b_range : mg "range" = none) (b_len : mg "len" = none) (b_isinstance : mg "isinstance" = none) (b_bool : mg "bool" = none) (b_int : mg "int" = none) (b_max : mg "max" = none) : QSs (cxOf (CX1 P w) P w K mg base ["_law_told_here", "_law_some", "_law_bounds_here", "_law_good", "_law_ahead", "_law_k", "_law_least", "_law_most", "_law_fitting"] "_law_greatest" (defScope s_law_greatest) f cdv A outer s H E) F0 H (defBody s_law_greatest) (rd_law_greatest K c ) := by
  have nd := sc_law_greatest.nd
  have hu : (A.deeper (envOfC "_law_greatest" (defScope s_law_greatest) s.heap.objs.size f cdv)).units + 21 < cLine := by have := hr.units; omega
  exact (qss_cons (by exact (qs_set (i := 4) nd rfl (by trivial) (by exact qe_int)))
 (by exact (qss_cons (by exact (qs_rng1 rfl rfl b_range (by exact (qa_cons (qe_callB (fun _ => q_len) rfl b_len boot_len (qa_cons (qe_var (i := 2) rfl (by trivial)) qa_nil)) qa_nil)) (by exact (qg_name (i := 5) nd rfl (by trivial)))
 (by exact (qss_cons (by exact (qs_asg (qe_ix (qe_var (i := 2) rfl (by trivial)) (qe_var (i := 5) rfl (by trivial)) (fun _ _ => rfl)) (qg_tup rfl (qgs_cons (qg_name (i := 6) nd rfl (by trivial)) (qgs_cons (qg_name (i := 7) nd rfl (by trivial)) qgs_nil)))))
 (by exact (qss_cons (by exact (qs_frz (by exact (qs_setC (i := 8) nd rfl rfl (own := ["_law_end"]) (N' := ["_law_end", "_law_ahead", "_law_least", "_law_most"]) (by show CpOk ["_law_told_here", "_law_some", "_law_bounds_here", "_law_good", "_law_ahead", "_law_k", "_law_least", "_law_most", "_law_fitting"] _ ["_law_end"] [4, 6, 7] (defScope s_law_greatest) ["_law_end", "_law_ahead", "_law_least", "_law_most"]; exact ⟨rfl, by decide +kernel, by decide +kernel, by decide +kernel, rfl, by decide +kernel⟩) rfl (by exact (qic (qi_seq (qe_ix (qe_var (i := 3) rfl (by trivial)) (qe_bin (fun _ => o_add) (qe_var (i := 5) rfl (by trivial)) qe_int) (fun _ _ => rfl))))) (fun C s₀ H₀ fp F0 H0 => by exact (qg_name (i := 0) (show (["_law_end", "_law_ahead", "_law_least", "_law_most"] : List Str).Nodup by decide +kernel) rfl (by trivial))) (fun C s₀ H₀ fp F0 H0 => by exact (qts_one (qt_chain (fun _ => o_le) (fun _ => o_le) (qe_var (i := 2) rfl (by trivial)) (qe_bin (fun _ => o_sub) (qe_var (i := 0) rfl (by trivial)) (qe_var (i := 1) rfl (by trivial))) (qe_var (i := 3) rfl (by trivial))))) (fun C s₀ H₀ fp F0 H0 => by exact (qe_var (i := 0) rfl (by trivial)))))))
 (by exact (qss_cons (by exact (qs_if (by exact (qt_w (qw_or (qt_val (qe_isi (qe_ix (qe_var (i := 0) rfl (by trivial)) (qe_var (i := 5) rfl (by trivial)) (fun _ _ => rfl)) rfl b_isinstance rfl b_bool rfl)) (qw_or (qt_not (qt_val (qe_isi (qe_ix (qe_var (i := 0) rfl (by trivial)) (qe_var (i := 5) rfl (by trivial)) (fun _ _ => rfl)) rfl b_isinstance rfl b_int rfl))) (qw_or (qt_cmp (fun _ => o_eq hu) (qe_var (i := 8) rfl (by trivial)) (qe_of (by exact (qf_lst qa_nil))) (nomark _)) (qw_or1 (qt_cmp (fun _ => o_ne hu) (qe_ix (qe_var (i := 0) rfl (by trivial)) (qe_var (i := 5) rfl (by trivial)) (fun _ _ => rfl)) (qe_callB (fun _ => q_maxL rfl) rfl b_max boot_max (qa_cons (qe_var (i := 8) rfl (by trivial)) qa_nil)) (nomark _))))))))
 (by exact (qss_one (by exact (qs_ret (by exact qe_bl)))))
 (by exact qss_nil)))
 (by exact (qss_one (by exact (qs_set (i := 4) nd rfl (by trivial) (by exact (qe_ix (qe_var (i := 0) rfl (by trivial)) (qe_var (i := 5) rfl (by trivial)) (fun _ _ => rfl)))))))))))))))
 (by exact (qss_one (by exact (qs_ret (by exact (qe_cmp (fun _ => o_eq hu) (qe_var (i := 4) rfl (by trivial)) (qe_ix (qe_var (i := 1) rfl (by trivial)) (qe_neg qe_int) (fun _ _ => rfl)) (nomark _))))))))))
theorem fo_law_greatest {f : Addr} {fd : FuncData} (c : Cls) (F : Fun K "_law_greatest" "_law_greatest" s_law_greatest f fd) (b_range : mg "range" = none) (b_len : mg "len" = none) (b_isinstance : mg "isinstance" = none) (b_bool : mg "bool" = none) (b_int : mg "int" = none) (b_max : mg "max" = none)  : FnOk P w K mg base (CX1 P w) 1 f fd ["_law_told_here", "_law_some", "_law_bounds_here", "_law_good"] (spUp K (sp_law_greatest c)) :=
  fn2 F sc_law_greatest (fun _ _ _ h => l_law_greatest h) fun cdv A outer s H E hr F0 => ⟨rd_law_greatest K c , d_law_greatest c hr b_range b_len b_isinstance b_bool b_int b_max, fun ds Q Ex h => r_law_greatest  h⟩
theorem ok_law_greatest {f : Addr} {fd : FuncData} (c : Cls) (F : Fun K "_law_greatest" "_law_greatest" s_law_greatest f fd) (hm : mg "_law_greatest" = some (.ref f)) (b_range : mg "range" = none) (b_len : mg "len" = none) (b_isinstance : mg "isinstance" = none) (b_bool : mg "bool" = none) (b_int : mg "int" = none) (b_max : mg "max" = none)  : Fn2 P w K mg base "_law_greatest" 1 ["_law_told_here", "_law_some", "_law_bounds_here", "_law_good"] (sp_law_greatest c) :=
  ⟨f, fd, fo_law_greatest c F  b_range b_len b_isinstance b_bool b_int b_max , hm, F.kp, F.binds fun _ _ _ _ _ _ us hl => match us, hl with | [_, _, _, _], _ => rfl⟩
abbrev s_law : Stmt := top 33
theorem sc_law : FnScope ["_law_script", "_law_x", "_law_many", "_law_marks_here", "_law_bounds_here", "_law_handed", "_law_told_here", "_law_some", "_law_good"] ["_law_script"] (defScope s_law) := ⟨rfl, rfl, rfl, by decide +kernel, rfl, by decide +kernel, by decide +kernel⟩
theorem d_law {f : Addr} {cdv : Value} {A : Around} {outer : List Env} {s : Shared} {H : Hp} {E : XK} {F0 : Hp} (c : Cls) (hr : Room 7 (A.deeper (envOfC "law" (defScope s_law) s.heap.objs.size f cdv))) (G_law_stream : Fn2 P w K mg base "_law_stream" 1 ["_law_cell_here", "_law_many"] (sp_law_stream c)) (G_law_marks : Fn2 P w K mg base "_law_marks" 3 ["_law_script", "_law_first", "_law_many"] (sp_law_marks c)) (G_law_bounds : Fn2 P w K mg base "_law_bounds" 2 ["_law_script", "_law_first", "_law_many"] (sp_law_bounds c)) (G_law_told : Fn2 P w K mg base "_law_told" 7 ["_law_marks_here", "_law_bounds_here"] (sp_law_told c)) (G_law_ends : Fn2 P w K mg base "_law_ends" 3 ["_law_marks_here"] (sp_law_ends c)) (G_law_leading : Fn2 P w K mg base "_law_leading" 1 ["_law_some", "_law_bounds_here"] (sp_law_leading c)) (G_law_cell : Fn2 P w K mg base "_law_cell" 1 ["_law_script", "_law_k"] (sp_law_cell c)) (G_law_wide : Fn2 P w K mg base "_law_wide" 4 ["_law_script"] (sp_law_wide c)) (G_law_greatest : Fn2 P w K mg base "_law_greatest" 1 ["_law_told_here", "_law_some", "_law_bounds_here", "_law_good"] (sp_law_greatest c)) (b_min : mg "min" = none) (b_int : mg "int" = none) (b_len : mg "len" = none) (b_list : mg "list" = none) (b_max : mg "max" = none) (b_isinstance : mg "isinstance" = none) : QSs (cxOf (CX1 P w) P w K mg base ["_law_script", "_law_x", "_law_many", "_law_marks_here", "_law_bounds_here", "_law_handed", "_law_told_here", "_law_some", "_law_good"] "law" (defScope s_law) f cdv A outer s H E) F0 H (defBody s_law) (rd_law K c ) := by
  have nd := sc_law.nd
  have hu : (A.deeper (envOfC "law" (defScope s_law) s.heap.objs.size f cdv)).units + 21 < cLine := by have := hr.units; omega
  exact (qss_cons (by exact (qs_set (i := 1) nd rfl (by trivial) (by exact (qe_callF G_law_stream (hr.mono (by decide)) rfl (qa_cons (qe_callF G_law_cell (hr.mono (by decide)) rfl (qa_cons (qe_var (i := 0) rfl (by trivial)) (qa_cons qe_int qa_nil))) (qa_cons qe_int qa_nil))))))
 (by exact (qss_cons (by exact (qs_set (i := 2) nd rfl (by trivial) (by exact (qe_bin (fun _ => o_mul) (qe_callB (fun _ => q_min rfl) rfl b_min boot_min (qa_cons qe_int (qa_cons (qe_callB (fun _ => q_max rfl) rfl b_max boot_max (qa_cons (qe_bin (fun _ => o_sub) (qe_callB (fun _ => q_len) rfl b_len boot_len (qa_cons (qe_var (i := 0) rfl (by trivial)) qa_nil)) qe_int) (qa_cons (qe_bin (fun _ => o_mod) (qe_ix (qe_var (i := 1) rfl (by trivial)) qe_int (fun _ _ => rfl)) qe_int) qa_nil))) qa_nil))) (qe_callT (fun _ => q_int) rfl b_int boot_int (qa_cons (qe_cmp (fun _ => o_ne hu) (qe_bin (fun _ => o_mod) (qe_ix (qe_var (i := 1) rfl (by trivial)) qe_int (fun _ _ => rfl)) qe_int) qe_int (nomark _)) qa_nil))))))
 (by exact (qss_cons (by exact (qs_set (i := 3) nd rfl (by trivial) (by exact (qe_callF G_law_marks (hr.mono (by decide)) rfl (qa_cons (qe_var (i := 0) rfl (by trivial)) (qa_cons qe_int (qa_cons (qe_var (i := 2) rfl (by trivial)) qa_nil)))))))
 (by exact (qss_cons (by exact (qs_if (by exact (qt_cmp (fun _ => o_eq hu) (qe_bin (fun _ => o_mod) (qe_ix (qe_var (i := 1) rfl (by trivial)) qe_int (fun _ _ => rfl)) qe_int) qe_int (nomark _)))
 (by exact (qss_one (by exact (qs_set (i := 3) nd rfl (by trivial) (by exact (qe_callF G_law_wide (hr.mono (by decide)) rfl (qa_cons (qe_var (i := 0) rfl (by trivial)) qa_nil)))))))
 (by exact qss_nil)))
 (by exact (qss_cons (by exact (qs_set (i := 4) nd rfl (by trivial) (by exact (qe_callF G_law_bounds (hr.mono (by decide)) rfl (qa_cons (qe_var (i := 0) rfl (by trivial)) (qa_cons qe_int (qa_cons (qe_callB (fun _ => q_len) rfl b_len boot_len (qa_cons (qe_var (i := 3) rfl (by trivial)) qa_nil)) qa_nil)))))))
 (by exact (qss_cons (by exact (qs_set (i := 5) nd rfl (by trivial) (by exact (qe_of (by exact (qf_lst (qa_cons (qe_of (by exact (qf_callT (fun _ => q_list) rfl b_list boot_list (qa_cons (qe_var (i := 3) rfl (by trivial)) qa_nil)))) (qa_cons (qe_of (by exact (qf_callT (fun _ => q_list) rfl b_list boot_list (qa_cons (qe_var (i := 4) rfl (by trivial)) qa_nil)))) qa_nil))))))))
 (by exact (qss_cons (by exact (qs_set (i := 6) nd rfl (by trivial) (by exact (qe_callF G_law_told (hr.mono (by decide)) rfl (qa_cons (qe_ix (qe_var (i := 5) rfl (by trivial)) qe_int (fun _ _ => rfl)) (qa_cons (qe_ix (qe_var (i := 5) rfl (by trivial)) qe_int (fun _ _ => rfl)) qa_nil))))))
 (by exact (qss_cons (by exact (qs_set (i := 7) nd rfl (by trivial) (by exact (qe_callF G_law_ends (hr.mono (by decide)) rfl (qa_cons (qe_var (i := 3) rfl (by trivial)) qa_nil)))))
 (by exact (qss_cons (by exact (qs_set (i := 8) nd rfl (by trivial) (by exact (qe_callF G_law_leading (hr.mono (by decide)) rfl (qa_cons (qe_var (i := 7) rfl (by trivial)) (qa_cons (qe_var (i := 4) rfl (by trivial)) qa_nil))))))
 (by exact (qss_cons (by exact (qs_if (by exact (qt_w (qw_or (qt_cmp (fun _ => o_ne hu) (qe_var (i := 5) rfl (by trivial)) (qe_of (by exact (qf_lst (qa_cons (qe_var (i := 3) rfl (by trivial)) (qa_cons (qe_var (i := 4) rfl (by trivial)) qa_nil))))) (nomark _)) (qw_or1 (qt_cmp (fun _ => o_is) (qe_var (i := 6) rfl (by trivial)) qe_non (nomark _))))))
 (by exact (qss_one (by exact (qs_ret (by exact qe_bl)))))
 (by exact qss_nil)))
 (by exact (qss_cons (by exact (qs_if (by exact (qt_cmp (fun _ => o_nin) qe_int (qe_ix (qe_var (i := 8) rfl (by trivial)) qe_int (fun _ _ => rfl)) (by with_unfolding_all rfl)))
 (by exact (qss_one (by exact (qs_ret (by exact (qe_cmp (fun _ => o_is) (qe_var (i := 6) rfl (by trivial)) qe_bl (nomark _)))))))
 (by exact qss_nil)))
 (by exact (qss_cons (by exact (qs_if (by exact (qt_w (qw_or (qt_not (qt_val (qe_isi (qe_var (i := 6) rfl (by trivial)) rfl b_isinstance rfl b_list rfl))) (qw_or (qt_cmp (fun _ => o_ne hu) (qe_callB (fun _ => q_len) rfl b_len boot_len (qa_cons (qe_var (i := 6) rfl (by trivial)) qa_nil)) (qe_callB (fun _ => q_len) rfl b_len boot_len (qa_cons (qe_var (i := 4) rfl (by trivial)) qa_nil)) (nomark _)) (qw_or1 (qt_not (qt_val (qe_callF G_law_greatest (hr.mono (by decide)) rfl (qa_cons (qe_var (i := 6) rfl (by trivial)) (qa_cons (qe_var (i := 7) rfl (by trivial)) (qa_cons (qe_var (i := 4) rfl (by trivial)) (qa_cons (qe_var (i := 8) rfl (by trivial)) qa_nil))))))))))))
 (by exact (qss_one (by exact (qs_ret (by exact qe_bl)))))
 (by exact qss_nil)))
 (by exact (qss_one (by exact (qs_ret (by exact (qe_cmp (fun _ => o_eq hu) (qe_callF G_law_told (hr.mono (by decide)) rfl (qa_cons (qe_of (by exact (qf_rev (qe_var (i := 3) rfl (by trivial))))) (qa_cons (qe_var (i := 4) rfl (by trivial)) qa_nil))) (qe_var (i := 6) rfl (by trivial)) (nomark _))))))))))))))))))))))))))))))
theorem fo_law {f : Addr} {fd : FuncData} (c : Cls) (F : Fun K "law" "law" s_law f fd) (G_law_stream : Fn2 P w K mg base "_law_stream" 1 ["_law_cell_here", "_law_many"] (sp_law_stream c)) (G_law_marks : Fn2 P w K mg base "_law_marks" 3 ["_law_script", "_law_first", "_law_many"] (sp_law_marks c)) (G_law_bounds : Fn2 P w K mg base "_law_bounds" 2 ["_law_script", "_law_first", "_law_many"] (sp_law_bounds c)) (G_law_told : Fn2 P w K mg base "_law_told" 7 ["_law_marks_here", "_law_bounds_here"] (sp_law_told c)) (G_law_ends : Fn2 P w K mg base "_law_ends" 3 ["_law_marks_here"] (sp_law_ends c)) (G_law_leading : Fn2 P w K mg base "_law_leading" 1 ["_law_some", "_law_bounds_here"] (sp_law_leading c)) (G_law_cell : Fn2 P w K mg base "_law_cell" 1 ["_law_script", "_law_k"] (sp_law_cell c)) (G_law_wide : Fn2 P w K mg base "_law_wide" 4 ["_law_script"] (sp_law_wide c)) (G_law_greatest : Fn2 P w K mg base "_law_greatest" 1 ["_law_told_here", "_law_some", "_law_bounds_here", "_law_good"] (sp_law_greatest c)) (b_min : mg "min" = none) (b_int : mg "int" = none) (b_len : mg "len" = none) (b_list : mg "list" = none) (b_max : mg "max" = none) (b_isinstance : mg "isinstance" = none)  : FnOk P w K mg base (CX1 P w) 8 f fd ["_law_script"] (spUp K (sp_law c)) :=
  fn2 F sc_law (fun _ _ _ h => l_law h) fun cdv A outer s H E hr F0 => ⟨rd_law K c , d_law c hr G_law_stream G_law_marks G_law_bounds G_law_told G_law_ends G_law_leading G_law_cell G_law_wide G_law_greatest b_min b_int b_len b_list b_max b_isinstance, fun ds Q Ex h => r_law  h⟩
theorem ok_law {f : Addr} {fd : FuncData} (c : Cls) (F : Fun K "law" "law" s_law f fd) (hm : mg "law" = some (.ref f)) (G_law_stream : Fn2 P w K mg base "_law_stream" 1 ["_law_cell_here", "_law_many"] (sp_law_stream c)) (G_law_marks : Fn2 P w K mg base "_law_marks" 3 ["_law_script", "_law_first", "_law_many"] (sp_law_marks c)) (G_law_bounds : Fn2 P w K mg base "_law_bounds" 2 ["_law_script", "_law_first", "_law_many"] (sp_law_bounds c)) (G_law_told : Fn2 P w K mg base "_law_told" 7 ["_law_marks_here", "_law_bounds_here"] (sp_law_told c)) (G_law_ends : Fn2 P w K mg base "_law_ends" 3 ["_law_marks_here"] (sp_law_ends c)) (G_law_leading : Fn2 P w K mg base "_law_leading" 1 ["_law_some", "_law_bounds_here"] (sp_law_leading c)) (G_law_cell : Fn2 P w K mg base "_law_cell" 1 ["_law_script", "_law_k"] (sp_law_cell c)) (G_law_wide : Fn2 P w K mg base "_law_wide" 4 ["_law_script"] (sp_law_wide c)) (G_law_greatest : Fn2 P w K mg base "_law_greatest" 1 ["_law_told_here", "_law_some", "_law_bounds_here", "_law_good"] (sp_law_greatest c)) (b_min : mg "min" = none) (b_int : mg "int" = none) (b_len : mg "len" = none) (b_list : mg "list" = none) (b_max : mg "max" = none) (b_isinstance : mg "isinstance" = none)  : Fn2 P w K mg base "law" 8 ["_law_script"] (sp_law c) :=
  ⟨f, fd, fo_law c F  G_law_stream G_law_marks G_law_bounds G_law_told G_law_ends G_law_leading G_law_cell G_law_wide G_law_greatest b_min b_int b_len b_list b_max b_isinstance , hm, F.kp, F.binds fun _ _ _ _ _ _ us hl => match us, hl with | [_], _ => rfl⟩
end
theorem all_mk {l : PySem.W.OpenLaw} {w : World} {K : PySem.W.Frag} {h : Heap} {mg : Str → Option Value} {fa : Addr} (X : K.In h) (G : h.Ns mainGlobals mg) (hfa : mg "law" = some (.ref fa))
  {C_HallError C_Barred C_NoScale C_Open : Addr}
  (na_Barred_reach : PySem.W.findIn K (.ref C_Barred) "reach" = some none)
  (xik_Barred : excB K C_Barred = true)
  (xig1_Barred : PySem.W.findIn K (.ref C_Barred) "__getattribute__" = some (some (.builtin "BaseException.__getattribute__")))
  (xig2_Barred : PySem.W.findIn K (.ref C_Barred) "__getattr__" = some none)
  (xig3_Barred : PySem.W.findIn K (.ref C_Barred) "__class__" = some (some (.builtin "object.__class__")))
  (xig4_Barred : PySem.W.mroIn K C_Barred (.type "object") = some true)
  (xig5_Barred : PySem.W.mroIn K C_Barred (.type "BaseException") = some true)
  (xisa_Barred : PySem.W.findIn K (.ref C_Barred) "__setattr__" = some (some (.builtin "object.__setattr__")))
  (xihd_Barred : PySem.W.hasDictIn K C_Barred = true)
  (xasp_HallError : PySem.W.specialIn K (.ref C_HallError) "__getattribute__" = some (some (.builtin "type.__getattribute__")))
  (xard_HallError : PySem.W.readsIn K C_HallError (.type "type") = true)
  (xafi_HallError : PySem.W.findCls K (.ref C_HallError) (.type "type") "__init__" = some (.val (.builtin "ValueError.__init__")))
  {f0 : Addr} {od0 an0 : Option Addr} {sl0 : Array (Option Value)} {oc0 kV0 dc0 pm0 cd0 ct0 : Value}
  (a0 : PySem.W.nsIn K mainGlobals "_law_stream" = some (some (.ref f0))) (l0 : K.lookup f0 = some ⟨oc0, od0, .func (PySem.W.fnOf "_law_stream" "_law_stream" (defArgs s_law_stream) (defBody s_law_stream) (defScope s_law_stream) .none kV0 dc0 pm0 an0 cd0 ct0), sl0⟩) (c0 : PySem.W.codeIn K cd0 "_law_stream" = true) (k0 : PySem.W.keepIn K (.ref f0) = true)
  {f1 : Addr} {od1 an1 : Option Addr} {sl1 : Array (Option Value)} {oc1 kV1 dc1 pm1 cd1 ct1 : Value}
  (a1 : PySem.W.nsIn K mainGlobals "_law_low" = some (some (.ref f1))) (l1 : K.lookup f1 = some ⟨oc1, od1, .func (PySem.W.fnOf "_law_low" "_law_low" (defArgs s_law_low) (defBody s_law_low) (defScope s_law_low) .none kV1 dc1 pm1 an1 cd1 ct1), sl1⟩) (c1 : PySem.W.codeIn K cd1 "_law_low" = true) (k1 : PySem.W.keepIn K (.ref f1) = true)
  {f2 : Addr} {od2 an2 : Option Addr} {sl2 : Array (Option Value)} {oc2 kV2 dc2 pm2 cd2 ct2 : Value}
  (a2 : PySem.W.nsIn K mainGlobals "_law_fraction" = some (some (.ref f2))) (l2 : K.lookup f2 = some ⟨oc2, od2, .func (PySem.W.fnOf "_law_fraction" "_law_fraction" (defArgs s_law_fraction) (defBody s_law_fraction) (defScope s_law_fraction) .none kV2 dc2 pm2 an2 cd2 ct2), sl2⟩) (c2 : PySem.W.codeIn K cd2 "_law_fraction" = true) (k2 : PySem.W.keepIn K (.ref f2) = true)
  {f3 : Addr} {od3 an3 : Option Addr} {sl3 : Array (Option Value)} {oc3 kV3 dc3 pm3 cd3 ct3 : Value}
  (a3 : PySem.W.nsIn K mainGlobals "_law_cell" = some (some (.ref f3))) (l3 : K.lookup f3 = some ⟨oc3, od3, .func (PySem.W.fnOf "_law_cell" "_law_cell" (defArgs s_law_cell) (defBody s_law_cell) (defScope s_law_cell) .none kV3 dc3 pm3 an3 cd3 ct3), sl3⟩) (c3 : PySem.W.codeIn K cd3 "_law_cell" = true) (k3 : PySem.W.keepIn K (.ref f3) = true)
  {f4 : Addr} {od4 an4 : Option Addr} {sl4 : Array (Option Value)} {oc4 kV4 dc4 pm4 cd4 ct4 : Value}
  (a4 : PySem.W.nsIn K mainGlobals "_law_plus" = some (some (.ref f4))) (l4 : K.lookup f4 = some ⟨oc4, od4, .func (PySem.W.fnOf "_law_plus" "_law_plus" (defArgs s_law_plus) (defBody s_law_plus) (defScope s_law_plus) .none kV4 dc4 pm4 an4 cd4 ct4), sl4⟩) (c4 : PySem.W.codeIn K cd4 "_law_plus" = true) (k4 : PySem.W.keepIn K (.ref f4) = true)
  {f5 : Addr} {od5 an5 : Option Addr} {sl5 : Array (Option Value)} {oc5 kV5 dc5 pm5 cd5 ct5 : Value}
  (a5 : PySem.W.nsIn K mainGlobals "_law_marks" = some (some (.ref f5))) (l5 : K.lookup f5 = some ⟨oc5, od5, .func (PySem.W.fnOf "_law_marks" "_law_marks" (defArgs s_law_marks) (defBody s_law_marks) (defScope s_law_marks) .none kV5 dc5 pm5 an5 cd5 ct5), sl5⟩) (c5 : PySem.W.codeIn K cd5 "_law_marks" = true) (k5 : PySem.W.keepIn K (.ref f5) = true)
  {f6 : Addr} {od6 an6 : Option Addr} {sl6 : Array (Option Value)} {oc6 kV6 dc6 pm6 cd6 ct6 : Value}
  (a6 : PySem.W.nsIn K mainGlobals "_law_bounds" = some (some (.ref f6))) (l6 : K.lookup f6 = some ⟨oc6, od6, .func (PySem.W.fnOf "_law_bounds" "_law_bounds" (defArgs s_law_bounds) (defBody s_law_bounds) (defScope s_law_bounds) .none kV6 dc6 pm6 an6 cd6 ct6), sl6⟩) (c6 : PySem.W.codeIn K cd6 "_law_bounds" = true) (k6 : PySem.W.keepIn K (.ref f6) = true)
  {f7 : Addr} {od7 an7 : Option Addr} {sl7 : Array (Option Value)} {oc7 kV7 dc7 pm7 cd7 ct7 : Value}
  (a7 : PySem.W.nsIn K mainGlobals "is_within" = some (some (.ref f7))) (l7 : K.lookup f7 = some ⟨oc7, od7, .func (PySem.W.fnOf "is_within" "is_within" (defArgs s_is_within) (defBody s_is_within) (defScope s_is_within) .none kV7 dc7 pm7 an7 cd7 ct7), sl7⟩) (c7 : PySem.W.codeIn K cd7 "is_within" = true) (k7 : PySem.W.keepIn K (.ref f7) = true)
  {f8 : Addr} {od8 an8 : Option Addr} {sl8 : Array (Option Value)} {oc8 kV8 dc8 pm8 cd8 ct8 : Value}
  (a8 : PySem.W.nsIn K mainGlobals "reached" = some (some (.ref f8))) (l8 : K.lookup f8 = some ⟨oc8, od8, .func (PySem.W.fnOf "reached" "reached" (defArgs s_reached) (defBody s_reached) (defScope s_reached) .none kV8 dc8 pm8 an8 cd8 ct8), sl8⟩) (c8 : PySem.W.codeIn K cd8 "reached" = true) (k8 : PySem.W.keepIn K (.ref f8) = true)
  {f9 : Addr} {od9 an9 : Option Addr} {sl9 : Array (Option Value)} {oc9 kV9 dc9 pm9 cd9 ct9 : Value}
  (a9 : PySem.W.nsIn K mainGlobals "reach" = some (some (.ref f9))) (l9 : K.lookup f9 = some ⟨oc9, od9, .func (PySem.W.fnOf "reach" "reach" (defArgs s_reach) (defBody s_reach) (defScope s_reach) .none kV9 dc9 pm9 an9 cd9 ct9), sl9⟩) (c9 : PySem.W.codeIn K cd9 "reach" = true) (k9 : PySem.W.keepIn K (.ref f9) = true)
  {f10 : Addr} {od10 an10 : Option Addr} {sl10 : Array (Option Value)} {oc10 kV10 dc10 pm10 cd10 ct10 : Value}
  (a10 : PySem.W.findIn K (.ref C_Barred) "__init__" = some (some (.ref f10))) (n10 : PySem.W.isFn K (.ref f10) = true) (l10 : K.lookup f10 = some ⟨oc10, od10, .func (PySem.W.fnOf "__init__" "Barred.__init__" (defArgs s_Barred___init__) (defBody s_Barred___init__) (defScope s_Barred___init__) .none kV10 dc10 pm10 an10 cd10 ct10), sl10⟩) (c10 : PySem.W.codeIn K cd10 "Barred.__init__" = true) (k10 : PySem.W.keepIn K (.ref f10) = true)
  {f11 : Addr} {od11 an11 : Option Addr} {sl11 : Array (Option Value)} {oc11 kV11 dc11 pm11 cd11 ct11 : Value}
  (a11 : PySem.W.nsIn K mainGlobals "under" = some (some (.ref f11))) (l11 : K.lookup f11 = some ⟨oc11, od11, .func (PySem.W.fnOf "under" "under" (defArgs s_under) (defBody s_under) (defScope s_under) .none kV11 dc11 pm11 an11 cd11 ct11), sl11⟩) (c11 : PySem.W.codeIn K cd11 "under" = true) (k11 : PySem.W.keepIn K (.ref f11) = true)
  {f12 : Addr} {od12 an12 : Option Addr} {sl12 : Array (Option Value)} {oc12 kV12 dc12 pm12 cd12 ct12 : Value}
  (a12 : PySem.W.nsIn K mainGlobals "number_from" = some (some (.ref f12))) (l12 : K.lookup f12 = some ⟨oc12, od12, .func (PySem.W.fnOf "number_from" "number_from" (defArgs s_number_from) (defBody s_number_from) (defScope s_number_from) .none kV12 dc12 pm12 an12 cd12 ct12), sl12⟩) (c12 : PySem.W.codeIn K cd12 "number_from" = true) (k12 : PySem.W.keepIn K (.ref f12) = true)
  {f13 : Addr} {od13 an13 : Option Addr} {sl13 : Array (Option Value)} {oc13 kV13 dc13 pm13 cd13 ct13 : Value}
  (a13 : PySem.W.nsIn K mainGlobals "ends" = some (some (.ref f13))) (l13 : K.lookup f13 = some ⟨oc13, od13, .func (PySem.W.fnOf "ends" "ends" (defArgs s_ends) (defBody s_ends) (defScope s_ends) .none kV13 dc13 pm13 an13 cd13 ct13), sl13⟩) (c13 : PySem.W.codeIn K cd13 "ends" = true) (k13 : PySem.W.keepIn K (.ref f13) = true)
  {f14 : Addr} {od14 an14 : Option Addr} {sl14 : Array (Option Value)} {oc14 kV14 dc14 pm14 cd14 ct14 : Value}
  (a14 : PySem.W.nsIn K mainGlobals "rests_behind" = some (some (.ref f14))) (l14 : K.lookup f14 = some ⟨oc14, od14, .func (PySem.W.fnOf "rests_behind" "rests_behind" (defArgs s_rests_behind) (defBody s_rests_behind) (defScope s_rests_behind) .none kV14 dc14 pm14 an14 cd14 ct14), sl14⟩) (c14 : PySem.W.codeIn K cd14 "rests_behind" = true) (k14 : PySem.W.keepIn K (.ref f14) = true)
  {f15 : Addr} {od15 an15 : Option Addr} {sl15 : Array (Option Value)} {oc15 kV15 dc15 pm15 cd15 ct15 : Value}
  (a15 : PySem.W.nsIn K mainGlobals "greatest_cuts" = some (some (.ref f15))) (l15 : K.lookup f15 = some ⟨oc15, od15, .func (PySem.W.fnOf "greatest_cuts" "greatest_cuts" (defArgs s_greatest_cuts) (defBody s_greatest_cuts) (defScope s_greatest_cuts) .none kV15 dc15 pm15 an15 cd15 ct15), sl15⟩) (c15 : PySem.W.codeIn K cd15 "greatest_cuts" = true) (k15 : PySem.W.keepIn K (.ref f15) = true)
  {f16 : Addr} {od16 an16 : Option Addr} {sl16 : Array (Option Value)} {oc16 kV16 dc16 pm16 cd16 ct16 : Value}
  (a16 : PySem.W.nsIn K mainGlobals "cuts" = some (some (.ref f16))) (l16 : K.lookup f16 = some ⟨oc16, od16, .func (PySem.W.fnOf "cuts" "cuts" (defArgs s_cuts) (defBody s_cuts) (defScope s_cuts) .none kV16 dc16 pm16 an16 cd16 ct16), sl16⟩) (c16 : PySem.W.codeIn K cd16 "cuts" = true) (k16 : PySem.W.keepIn K (.ref f16) = true)
  {f17 : Addr} {od17 an17 : Option Addr} {sl17 : Array (Option Value)} {oc17 kV17 dc17 pm17 cd17 ct17 : Value}
  (a17 : PySem.W.nsIn K mainGlobals "_law_told" = some (some (.ref f17))) (l17 : K.lookup f17 = some ⟨oc17, od17, .func (PySem.W.fnOf "_law_told" "_law_told" (defArgs s_law_told) (defBody s_law_told) (defScope s_law_told) .none kV17 dc17 pm17 an17 cd17 ct17), sl17⟩) (c17 : PySem.W.codeIn K cd17 "_law_told" = true) (k17 : PySem.W.keepIn K (.ref f17) = true)
  {f18 : Addr} {od18 an18 : Option Addr} {sl18 : Array (Option Value)} {oc18 kV18 dc18 pm18 cd18 ct18 : Value}
  (a18 : PySem.W.nsIn K mainGlobals "_law_less" = some (some (.ref f18))) (l18 : K.lookup f18 = some ⟨oc18, od18, .func (PySem.W.fnOf "_law_less" "_law_less" (defArgs s_law_less) (defBody s_law_less) (defScope s_law_less) .none kV18 dc18 pm18 an18 cd18 ct18), sl18⟩) (c18 : PySem.W.codeIn K cd18 "_law_less" = true) (k18 : PySem.W.keepIn K (.ref f18) = true)
  {f19 : Addr} {od19 an19 : Option Addr} {sl19 : Array (Option Value)} {oc19 kV19 dc19 pm19 cd19 ct19 : Value}
  (a19 : PySem.W.nsIn K mainGlobals "_law_sorted" = some (some (.ref f19))) (l19 : K.lookup f19 = some ⟨oc19, od19, .func (PySem.W.fnOf "_law_sorted" "_law_sorted" (defArgs s_law_sorted) (defBody s_law_sorted) (defScope s_law_sorted) .none kV19 dc19 pm19 an19 cd19 ct19), sl19⟩) (c19 : PySem.W.codeIn K cd19 "_law_sorted" = true) (k19 : PySem.W.keepIn K (.ref f19) = true)
  {f20 : Addr} {od20 an20 : Option Addr} {sl20 : Array (Option Value)} {oc20 kV20 dc20 pm20 cd20 ct20 : Value}
  (a20 : PySem.W.nsIn K mainGlobals "_law_ends" = some (some (.ref f20))) (l20 : K.lookup f20 = some ⟨oc20, od20, .func (PySem.W.fnOf "_law_ends" "_law_ends" (defArgs s_law_ends) (defBody s_law_ends) (defScope s_law_ends) .none kV20 dc20 pm20 an20 cd20 ct20), sl20⟩) (c20 : PySem.W.codeIn K cd20 "_law_ends" = true) (k20 : PySem.W.keepIn K (.ref f20) = true)
  {f21 : Addr} {od21 an21 : Option Addr} {sl21 : Array (Option Value)} {oc21 kV21 dc21 pm21 cd21 ct21 : Value}
  (a21 : PySem.W.nsIn K mainGlobals "_law_leading" = some (some (.ref f21))) (l21 : K.lookup f21 = some ⟨oc21, od21, .func (PySem.W.fnOf "_law_leading" "_law_leading" (defArgs s_law_leading) (defBody s_law_leading) (defScope s_law_leading) .none kV21 dc21 pm21 an21 cd21 ct21), sl21⟩) (c21 : PySem.W.codeIn K cd21 "_law_leading" = true) (k21 : PySem.W.keepIn K (.ref f21) = true)
  {f22 : Addr} {od22 an22 : Option Addr} {sl22 : Array (Option Value)} {oc22 kV22 dc22 pm22 cd22 ct22 : Value}
  (a22 : PySem.W.nsIn K mainGlobals "_law_wide" = some (some (.ref f22))) (l22 : K.lookup f22 = some ⟨oc22, od22, .func (PySem.W.fnOf "_law_wide" "_law_wide" (defArgs s_law_wide) (defBody s_law_wide) (defScope s_law_wide) .none kV22 dc22 pm22 an22 cd22 ct22), sl22⟩) (c22 : PySem.W.codeIn K cd22 "_law_wide" = true) (k22 : PySem.W.keepIn K (.ref f22) = true)
  {f23 : Addr} {od23 an23 : Option Addr} {sl23 : Array (Option Value)} {oc23 kV23 dc23 pm23 cd23 ct23 : Value}
  (a23 : PySem.W.nsIn K mainGlobals "_law_greatest" = some (some (.ref f23))) (l23 : K.lookup f23 = some ⟨oc23, od23, .func (PySem.W.fnOf "_law_greatest" "_law_greatest" (defArgs s_law_greatest) (defBody s_law_greatest) (defScope s_law_greatest) .none kV23 dc23 pm23 an23 cd23 ct23), sl23⟩) (c23 : PySem.W.codeIn K cd23 "_law_greatest" = true) (k23 : PySem.W.keepIn K (.ref f23) = true)
  {f24 : Addr} {od24 an24 : Option Addr} {sl24 : Array (Option Value)} {oc24 kV24 dc24 pm24 cd24 ct24 : Value}
  (a24 : PySem.W.nsIn K mainGlobals "law" = some (some (.ref f24))) (l24 : K.lookup f24 = some ⟨oc24, od24, .func (PySem.W.fnOf "law" "law" (defArgs s_law) (defBody s_law) (defScope s_law) .none kV24 dc24 pm24 an24 cd24 ct24), sl24⟩) (c24 : PySem.W.codeIn K cd24 "law" = true) (k24 : PySem.W.keepIn K (.ref f24) = true)
  (x_HallError : PySem.W.nsIn K mainGlobals "HallError" = some (some (.ref C_HallError))) (y_HallError : PySem.W.excIn K C_HallError [.type "ValueError", .type "Exception", .type "BaseException", .type "object"] "ValueError.__new__" = true)
  (x_Barred : PySem.W.nsIn K mainGlobals "Barred" = some (some (.ref C_Barred))) (w_Barred : clsB K C_Barred = true)
  (x_NoScale : PySem.W.nsIn K mainGlobals "NoScale" = some (some (.ref C_NoScale))) (y_NoScale : PySem.W.excIn K C_NoScale [.type "ValueError", .type "Exception", .type "BaseException", .type "object"] "ValueError.__new__" = true)
  (x_Open : PySem.W.nsIn K mainGlobals "Open" = some (some (.ref C_Open))) (w_Open : clsB K C_Open = true)
  (z_range : PySem.W.nsIn K mainGlobals "range" = some none)
  (z_abs : PySem.W.nsIn K mainGlobals "abs" = some none)
  (z_len : PySem.W.nsIn K mainGlobals "len" = some none)
  (z_max : PySem.W.nsIn K mainGlobals "max" = some none)
  (z_int : PySem.W.nsIn K mainGlobals "int" = some none)
  (z_any : PySem.W.nsIn K mainGlobals "any" = some none)
  (z_list : PySem.W.nsIn K mainGlobals "list" = some none)
  (z_sorted : PySem.W.nsIn K mainGlobals "sorted" = some none)
  (z_set : PySem.W.nsIn K mainGlobals "set" = some none)
  (z_reversed : PySem.W.nsIn K mainGlobals "reversed" = some none)
  (z_zip : PySem.W.nsIn K mainGlobals "zip" = some none)
  (z_isinstance : PySem.W.nsIn K mainGlobals "isinstance" = some none)
  (z_ValueError : PySem.W.nsIn K mainGlobals "ValueError" = some none)
  (z_bool : PySem.W.nsIn K mainGlobals "bool" = some none)
  (z_min : PySem.W.nsIn K mainGlobals "min" = some none)
  (xik_BarredT : excB K C_Barred = true)
  (g1_Barred : PySem.W.findIn K (.ref C_Barred) "__getattribute__" = some (some (.builtin "BaseException.__getattribute__")))
  (g2_Barred : PySem.W.findIn K (.ref C_Barred) "__getattr__" = some none)
  (g3_Barred : PySem.W.findIn K (.ref C_Barred) "__class__" = some (some (.builtin "object.__class__")))
  (g4_Barred : PySem.W.mroIn K C_Barred (.type "object") = some true)
  (g5_Barred : PySem.W.mroIn K C_Barred (.type "BaseException") = some true)
  (v_Barred : PySem.W.mroIn K C_Barred (.type "ValueError") = some true)
  (s_Barred_HallError : excSub K C_Barred C_HallError = true)
  (s_Barred_Barred : excSub K C_Barred C_Barred = true)
  (s_Barred_NoScale : excSub K C_Barred C_NoScale = false)
  (s_Barred_Open : excSub K C_Barred C_Open = false) :
  ∃ fd : FuncData, (∀ (s : Shared) (v : Value), BindsTo s fd ⟨[v], []⟩ [("_law_script", v)]) ∧ ∀ base : Heap, K.In base → base.Ns mainGlobals mg → FnOk l.prog w K mg base (CX1 l.prog w) 8 fa fd ["_law_script"] (spUp K sp_law0) := by
  have e := hfa.symm.trans (PySem.W.mg_of X G a24)
  cases e
  let c : Cls := { HallError := C_HallError, Barred := C_Barred, NoScale := C_NoScale, Open := C_Open }
  have e_HallError : mg "HallError" = some (.ref c.HallError) ∧ ExcC K c.HallError := ⟨PySem.W.mg_of X G x_HallError, y_HallError⟩
  have e_Barred : mg "Barred" = some (.ref c.Barred) ∧ clsB K c.Barred = true := ⟨PySem.W.mg_of X G x_Barred, w_Barred⟩
  have e_NoScale : mg "NoScale" = some (.ref c.NoScale) ∧ ExcC K c.NoScale := ⟨PySem.W.mg_of X G x_NoScale, y_NoScale⟩
  have e_Open : mg "Open" = some (.ref c.Open) ∧ clsB K c.Open = true := ⟨PySem.W.mg_of X G x_Open, w_Open⟩
  have xi_Barred : ExcI K c.Barred := ⟨xik_Barred, ⟨xig1_Barred, xig2_Barred, xig3_Barred, xig4_Barred, xig5_Barred⟩, xisa_Barred, xihd_Barred⟩
  have xa_HallError : ExcA K c.HallError := ⟨xasp_HallError, xard_HallError, xafi_HallError⟩
  have b_range : mg "range" = none := PySem.W.mg_none_of X G z_range
  have b_abs : mg "abs" = none := PySem.W.mg_none_of X G z_abs
  have b_len : mg "len" = none := PySem.W.mg_none_of X G z_len
  have b_max : mg "max" = none := PySem.W.mg_none_of X G z_max
  have b_int : mg "int" = none := PySem.W.mg_none_of X G z_int
  have b_any : mg "any" = none := PySem.W.mg_none_of X G z_any
  have b_list : mg "list" = none := PySem.W.mg_none_of X G z_list
  have b_sorted : mg "sorted" = none := PySem.W.mg_none_of X G z_sorted
  have b_set : mg "set" = none := PySem.W.mg_none_of X G z_set
  have b_reversed : mg "reversed" = none := PySem.W.mg_none_of X G z_reversed
  have b_zip : mg "zip" = none := PySem.W.mg_none_of X G z_zip
  have b_isinstance : mg "isinstance" = none := PySem.W.mg_none_of X G z_isinstance
  have b_ValueError : mg "ValueError" = none := PySem.W.mg_none_of X G z_ValueError
  have b_bool : mg "bool" = none := PySem.W.mg_none_of X G z_bool
  have b_min : mg "min" = none := PySem.W.mg_none_of X G z_min
  have F_law_stream := fun_mk (st := s_law_stream) l0 c0 k0
  have F_law_low := fun_mk (st := s_law_low) l1 c1 k1
  have F_law_fraction := fun_mk (st := s_law_fraction) l2 c2 k2
  have F_law_cell := fun_mk (st := s_law_cell) l3 c3 k3
  have F_law_plus := fun_mk (st := s_law_plus) l4 c4 k4
  have F_law_marks := fun_mk (st := s_law_marks) l5 c5 k5
  have F_law_bounds := fun_mk (st := s_law_bounds) l6 c6 k6
  have F_is_within := fun_mk (st := s_is_within) l7 c7 k7
  have F_reached := fun_mk (st := s_reached) l8 c8 k8
  have F_reach := fun_mk (st := s_reach) l9 c9 k9
  have F_Barred___init__ := fun_mk (st := s_Barred___init__) l10 c10 k10
  have F_under := fun_mk (st := s_under) l11 c11 k11
  have F_number_from := fun_mk (st := s_number_from) l12 c12 k12
  have F_ends := fun_mk (st := s_ends) l13 c13 k13
  have F_rests_behind := fun_mk (st := s_rests_behind) l14 c14 k14
  have F_greatest_cuts := fun_mk (st := s_greatest_cuts) l15 c15 k15
  have F_cuts := fun_mk (st := s_cuts) l16 c16 k16
  have F_law_told := fun_mk (st := s_law_told) l17 c17 k17
  have F_law_less := fun_mk (st := s_law_less) l18 c18 k18
  have F_law_sorted := fun_mk (st := s_law_sorted) l19 c19 k19
  have F_law_ends := fun_mk (st := s_law_ends) l20 c20 k20
  have F_law_leading := fun_mk (st := s_law_leading) l21 c21 k21
  have F_law_wide := fun_mk (st := s_law_wide) l22 c22 k22
  have F_law_greatest := fun_mk (st := s_law_greatest) l23 c23 k23
  have F_law := fun_mk (st := s_law) l24 c24 k24
  refine ⟨PySem.W.fnOf "law" "law" (defArgs s_law) (defBody s_law) (defScope s_law) .none kV24 dc24 pm24 an24 cd24 ct24, fun s v => .of_eq rfl, fun base kb nb => ?_⟩
  have G_law_stream := ok_law_stream (P := l.prog) (w := w) (base := base) c F_law_stream (PySem.W.mg_of X G a0) b_range 
  have G_law_low := ok_law_low (P := l.prog) (w := w) (base := base) c F_law_low (PySem.W.mg_of X G a1) b_abs 
  have G_law_fraction := ok_law_fraction (P := l.prog) (w := w) (base := base) c F_law_fraction (PySem.W.mg_of X G a2) G_law_low 
  have G_law_cell := ok_law_cell (P := l.prog) (w := w) (base := base) c F_law_cell (PySem.W.mg_of X G a3) b_len 
  have G_law_plus := ok_law_plus (P := l.prog) (w := w) (base := base) c F_law_plus (PySem.W.mg_of X G a4) G_law_low 
  have G_law_marks := ok_law_marks (P := l.prog) (w := w) (base := base) c F_law_marks (PySem.W.mg_of X G a5) G_law_stream G_law_fraction G_law_cell G_law_plus b_range b_len 
  have G_law_bounds := ok_law_bounds (P := l.prog) (w := w) (base := base) c F_law_bounds (PySem.W.mg_of X G a6) G_law_cell G_law_stream b_range b_max b_int 
  have G_is_within := ok_is_within (P := l.prog) (w := w) (base := base) c F_is_within (PySem.W.mg_of X G a7)  
  have G_reached := ok_reached (P := l.prog) (w := w) (base := base) c F_reached (PySem.W.mg_of X G a8) G_is_within b_any 
  have G_reach := ok_reach (P := l.prog) (w := w) (base := base) c F_reach (PySem.W.mg_of X G a9) G_reached 
  have G_Barred___init__ := ok_Barred___init__ (P := l.prog) (w := w) (base := base) c F_Barred___init__ ⟨a10, n10⟩ (PySem.W.mg_of X G x_Barred) xi_Barred xa_HallError G_reach b_list e_HallError na_Barred_reach 
  have G_under := ok_under (P := l.prog) (w := w) (base := base) c F_under (PySem.W.mg_of X G a11)  
  have G_number_from := ok_number_from (P := l.prog) (w := w) (base := base) c F_number_from (PySem.W.mg_of X G a12) G_under b_len 
  have G_ends := ok_ends (P := l.prog) (w := w) (base := base) c F_ends (PySem.W.mg_of X G a13) G_number_from b_sorted b_set 
  have G_rests_behind := ok_rests_behind (P := l.prog) (w := w) (base := base) c F_rests_behind (PySem.W.mg_of X G a14) G_reach b_list b_reversed 
  have G_greatest_cuts := ok_greatest_cuts (P := l.prog) (w := w) (base := base) c F_greatest_cuts (PySem.W.mg_of X G a15) G_rests_behind G_is_within b_zip b_max 
  have G_cuts := ok_cuts (P := l.prog) (w := w) (base := base) c F_cuts (PySem.W.mg_of X G a16) G_Barred___init__ G_ends G_reach G_greatest_cuts b_len 
  have G_law_told := ok_law_told (P := l.prog) (w := w) (base := base) c F_law_told (PySem.W.mg_of X G a17) G_cuts b_isinstance b_ValueError e_HallError e_Barred e_NoScale e_Open xik_BarredT g1_Barred g2_Barred g3_Barred g4_Barred g5_Barred v_Barred s_Barred_HallError s_Barred_Barred s_Barred_NoScale s_Barred_Open
  have G_law_less := ok_law_less (P := l.prog) (w := w) (base := base) c F_law_less (PySem.W.mg_of X G a18)  
  have G_law_sorted := ok_law_sorted (P := l.prog) (w := w) (base := base) c F_law_sorted (PySem.W.mg_of X G a19) G_law_less b_len 
  have G_law_ends := ok_law_ends (P := l.prog) (w := w) (base := base) c F_law_ends (PySem.W.mg_of X G a20) G_law_sorted G_law_less b_range b_len 
  have G_law_leading := ok_law_leading (P := l.prog) (w := w) (base := base) c F_law_leading (PySem.W.mg_of X G a21)  
  have G_law_wide := ok_law_wide (P := l.prog) (w := w) (base := base) c F_law_wide (PySem.W.mg_of X G a22) G_law_cell G_law_marks b_range b_len 
  have G_law_greatest := ok_law_greatest (P := l.prog) (w := w) (base := base) c F_law_greatest (PySem.W.mg_of X G a23) b_range b_len b_isinstance b_bool b_int b_max 
  exact fo_law (P := l.prog) (w := w) (base := base) c F_law G_law_stream G_law_marks G_law_bounds G_law_told G_law_ends G_law_leading G_law_cell G_law_wide G_law_greatest b_min b_int b_len b_list b_max b_isinstance 
theorem walk {l : PySem.W.OpenLaw} {q : Program} {loose : List Str} {XP : (Str → Option Value) → Heap → Prop} {YP : World → Heap → Prop} {d : DefRec} {K : Params → PySem.W.Frag} (hn : l.most = some 63) (hdf : d.params.defaults = [])
    (hY : ∀ (w : World) (h : Heap), YP w h → (K w.params).In h)
    (F : ∀ (w : World) (mg : Str → Option Value) (fa : Addr) (h : Heap), (K w.params).In h → h.Ns mainGlobals mg → mg d.name = some (.ref fa) →
      ∃ fd : FuncData, (∀ (s : Shared) (u : Value), BindsTo s fd ⟨[u], []⟩ [("_law_script", u)]) ∧ ∀ base : Heap, (K w.params).In base → base.Ns mainGlobals mg → FnOk l.prog w (K w.params) mg base (CX1 l.prog w) 8 fa fd ["_law_script"] (spUp (K w.params) sp_law0)) :
    PySem.W.WalkO q loose XP YP l.row.toRowW d [] (fun f vs => PySem.call f vs) :=
  L2.walk_of (n := 63) (k := 8) (x := "_law_script") (CX := fun w => CX1 l.prog w) (sp := fun w => spUp (K w.params) sp_law0) hn (by decide) hdf ⟨rfl, by decide, by decide⟩ hY F (fun w H a ns hl hO hS => law_start hl hS) fun _ _ _ _ _ z => law_none z
end Lw
open PySem PySem.W PyProof.Rows
set_option maxRecDepth 100000 in
set_option maxHeartbeats 0 in
theorem PySem.Challenge.cw_hall_k62_whole_cuts_holds : PySem.Challenge.rw_hall_k62_whole_cuts.Holds := by
  w_on; o_law; k_head; (case hw => w_witness2)
  k_fill
  refine Lw.walk (l := PySem.Challenge.rw_hall_k62_whole_cuts) rfl rfl (fun w h Y => PySem.W.kIn_of Y) ?F
  case F =>
    intro w mg fa h KX G hmg
    refine' Lw.all_mk KX G hmg ?na_Barred_reach ?xik_Barred ?xig1_Barred ?xig2_Barred ?xig3_Barred ?xig4_Barred ?xig5_Barred ?xisa_Barred ?xihd_Barred ?xasp_HallError ?xard_HallError ?xafi_HallError ?a0 ?l0 ?c0 ?k0 ?a1 ?l1 ?c1 ?k1 ?a2 ?l2 ?c2 ?k2 ?a3 ?l3 ?c3 ?k3 ?a4 ?l4 ?c4 ?k4 ?a5 ?l5 ?c5 ?k5 ?a6 ?l6 ?c6 ?k6 ?a7 ?l7 ?c7 ?k7 ?a8 ?l8 ?c8 ?k8 ?a9 ?l9 ?c9 ?k9 ?a10 ?n10 ?l10 ?c10 ?k10 ?a11 ?l11 ?c11 ?k11 ?a12 ?l12 ?c12 ?k12 ?a13 ?l13 ?c13 ?k13 ?a14 ?l14 ?c14 ?k14 ?a15 ?l15 ?c15 ?k15 ?a16 ?l16 ?c16 ?k16 ?a17 ?l17 ?c17 ?k17 ?a18 ?l18 ?c18 ?k18 ?a19 ?l19 ?c19 ?k19 ?a20 ?l20 ?c20 ?k20 ?a21 ?l21 ?c21 ?k21 ?a22 ?l22 ?c22 ?k22 ?a23 ?l23 ?c23 ?k23 ?a24 ?l24 ?c24 ?k24 ?x_HallError ?y_HallError ?x_Barred ?w_Barred ?x_NoScale ?y_NoScale ?x_Open ?w_Open ?z_range ?z_abs ?z_len ?z_max ?z_int ?z_any ?z_list ?z_sorted ?z_set ?z_reversed ?z_zip ?z_isinstance ?z_ValueError ?z_bool ?z_min ?xik_BarredT ?g1_Barred ?g2_Barred ?g3_Barred ?g4_Barred ?g5_Barred ?v_Barred ?s_Barred_HallError ?s_Barred_Barred ?s_Barred_NoScale ?s_Barred_Open
    (case x_HallError => k_is)
    (case x_Barred => k_is)
    (case x_NoScale => k_is)
    (case x_Open => k_is)
    (case na_Barred_reach => k_is)
    (case xik_Barred => kernel_rfl)
    (case xig1_Barred => k_is)
    (case xig2_Barred => k_is)
    (case xig3_Barred => k_is)
    (case xig4_Barred => k_is)
    (case xig5_Barred => k_is)
    (case xisa_Barred => k_is)
    (case xihd_Barred => k_is)
    (case xasp_HallError => k_is)
    (case xard_HallError => k_is)
    (case xafi_HallError => k_is)
    (case a0 => k_is)
    (case l0 => k_is)
    (case c0 => k_is)
    (case k0 => k_is)
    (case a1 => k_is)
    (case l1 => k_is)
    (case c1 => k_is)
    (case k1 => k_is)
    (case a2 => k_is)
    (case l2 => k_is)
    (case c2 => k_is)
    (case k2 => k_is)
    (case a3 => k_is)
    (case l3 => k_is)
    (case c3 => k_is)
    (case k3 => k_is)
    (case a4 => k_is)
    (case l4 => k_is)
    (case c4 => k_is)
    (case k4 => k_is)
    (case a5 => k_is)
    (case l5 => k_is)
    (case c5 => k_is)
    (case k5 => k_is)
    (case a6 => k_is)
    (case l6 => k_is)
    (case c6 => k_is)
    (case k6 => k_is)
    (case a7 => k_is)
    (case l7 => k_is)
    (case c7 => k_is)
    (case k7 => k_is)
    (case a8 => k_is)
    (case l8 => k_is)
    (case c8 => k_is)
    (case k8 => k_is)
    (case a9 => k_is)
    (case l9 => k_is)
    (case c9 => k_is)
    (case k9 => k_is)
    (case a10 => k_is)
    (case n10 => k_is)
    (case l10 => k_is)
    (case c10 => k_is)
    (case k10 => k_is)
    (case a11 => k_is)
    (case l11 => k_is)
    (case c11 => k_is)
    (case k11 => k_is)
    (case a12 => k_is)
    (case l12 => k_is)
    (case c12 => k_is)
    (case k12 => k_is)
    (case a13 => k_is)
    (case l13 => k_is)
    (case c13 => k_is)
    (case k13 => k_is)
    (case a14 => k_is)
    (case l14 => k_is)
    (case c14 => k_is)
    (case k14 => k_is)
    (case a15 => k_is)
    (case l15 => k_is)
    (case c15 => k_is)
    (case k15 => k_is)
    (case a16 => k_is)
    (case l16 => k_is)
    (case c16 => k_is)
    (case k16 => k_is)
    (case a17 => k_is)
    (case l17 => k_is)
    (case c17 => k_is)
    (case k17 => k_is)
    (case a18 => k_is)
    (case l18 => k_is)
    (case c18 => k_is)
    (case k18 => k_is)
    (case a19 => k_is)
    (case l19 => k_is)
    (case c19 => k_is)
    (case k19 => k_is)
    (case a20 => k_is)
    (case l20 => k_is)
    (case c20 => k_is)
    (case k20 => k_is)
    (case a21 => k_is)
    (case l21 => k_is)
    (case c21 => k_is)
    (case k21 => k_is)
    (case a22 => k_is)
    (case l22 => k_is)
    (case c22 => k_is)
    (case k22 => k_is)
    (case a23 => k_is)
    (case l23 => k_is)
    (case c23 => k_is)
    (case k23 => k_is)
    (case a24 => k_is)
    (case l24 => k_is)
    (case c24 => k_is)
    (case k24 => k_is)
    (case y_HallError => k_exc)
    (case w_Barred => first | exact rfl | k_is)
    (case y_NoScale => k_exc)
    (case w_Open => first | exact rfl | k_is)
    (case z_range => k_is)
    (case z_abs => k_is)
    (case z_len => k_is)
    (case z_max => k_is)
    (case z_int => k_is)
    (case z_any => k_is)
    (case z_list => k_is)
    (case z_sorted => k_is)
    (case z_set => k_is)
    (case z_reversed => k_is)
    (case z_zip => k_is)
    (case z_isinstance => k_is)
    (case z_ValueError => k_is)
    (case z_bool => k_is)
    (case z_min => k_is)
    (case xik_BarredT => kernel_rfl)
    (case g1_Barred => k_is)
    (case g2_Barred => k_is)
    (case g3_Barred => k_is)
    (case g4_Barred => k_is)
    (case g5_Barred => k_is)
    (case v_Barred => k_is)
    (case s_Barred_HallError => first | exact rfl | k_is)
    (case s_Barred_Barred => first | exact rfl | k_is)
    (case s_Barred_NoScale => first | exact rfl | k_is)
    (case s_Barred_Open => first | exact rfl | k_is)
#print axioms PySem.Challenge.cw_hall_k62_whole_cuts_holds
