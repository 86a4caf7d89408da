import PyProof.Rows.All
import Wide.All
import OpenK.AllK
import Wide.FinOn
import Lean
import PyProof.EqAt
import PyProof.EqKinds
import PyProof.TupleCall
import PyProof.NeKinds
import PySem.Challenge.RW_hall_k12_book_refusals
set_option Elab.async false
set_option linter.all false
set_option maxRecDepth 100000
set_option maxHeartbeats 4000000
namespace L2
open PySem PySem.Spec PyProof.Rows

abbrev Key := Sum Int Str
def keyIs : Key → Value → Bool
  | .inl k, v => Value.isInt k v
  | .inr x, v => Value.isStrOf x v
def keyH (w : World) : Key → Int
  | .inl k => hashInt k
  | .inr x => hashStr w x
theorem keyIs_shape : ∀ {k : Key} {v : Value}, keyIs k v = true → (∃ i t, k = Sum.inl i ∧ v = Value.int i t) ∨ (∃ x t, k = Sum.inr x ∧ v = Value.str x t)
  | .inl i, v, h => by
    obtain ⟨t, e⟩ := Value.isInt_shape (k := i) (v := v) h
    exact .inl ⟨i, t, rfl, e⟩
  | .inr x, v, h => by
    obtain ⟨t, e⟩ := Value.isStrOf_shape (x := x) (v := v) h
    exact .inr ⟨x, t, rfl, e⟩
theorem keyIs_int (i : Int) (t : Tok) : keyIs (.inl i) (.int i t) = true := by simp [keyIs, Value.isInt]
theorem keyIs_str (x : Str) (t : Tok) : keyIs (.inr x) (.str x t) = true := by simp [keyIs, Value.isStrOf]
theorem key_ll (a b : Int) : decide ((Sum.inl a : Key) = Sum.inl b) = (a == b) := by
  by_cases e : a = b
  · subst e; simp
  · have h : ¬ (Sum.inl a : Key) = Sum.inl b := fun q => e (Sum.inl.inj q)
    rw [decide_eq_false h]
    exact (beq_eq_false_iff_ne.mpr e).symm
theorem key_rr (a b : Str) : decide ((Sum.inr a : Key) = Sum.inr b) = decide (a = b) := by
  by_cases e : a = b
  · subst e; simp
  · have h : ¬ (Sum.inr a : Key) = Sum.inr b := fun q => e (Sum.inr.inj q)
    rw [decide_eq_false h, decide_eq_false e]
theorem key_lr (a : Int) (b : Str) : decide ((Sum.inl a : Key) = Sum.inr b) = false := decide_eq_false (fun q => nomatch q)
theorem key_rl (a : Str) (b : Int) : decide ((Sum.inr a : Key) = Sum.inl b) = false := decide_eq_false (fun q => nomatch q)

def mixKind (prog : Program) (w : World) : PySem.KeyKind prog w Key where
  is := keyIs
  hash := keyH w
  inj := fun v a b ha hb => by
    rcases keyIs_shape ha with ⟨i, t, rfl, rfl⟩ | ⟨x, t, rfl, rfl⟩
    · rcases keyIs_shape hb with ⟨j, u, rfl, e⟩ | ⟨y, u, rfl, e⟩
      · injection e with e1 _; rw [e1]
      · exact nomatch e
    · rcases keyIs_shape hb with ⟨j, u, rfl, e⟩ | ⟨y, u, rfl, e⟩
      · exact nomatch e
      · injection e with e1 _; rw [e1]
  byValue := fun k v h => by
    rcases keyIs_shape h with ⟨i, t, rfl, rfl⟩ | ⟨x, t, rfl, rfl⟩ <;> rfl
  pyHash := fun hv h => by
    rcases keyIs_shape hv with ⟨i, t, rfl, rfl⟩ | ⟨x, t, rfl, rfl⟩
    · exact wpAny_pyHash_int h
    · exact wpAny_pyHash_str h
  eqBool := fun hu hv h => by
    rcases keyIs_shape hu with ⟨i, t, rfl, rfl⟩ | ⟨x, t, rfl, rfl⟩
    · rcases keyIs_shape hv with ⟨j, u, rfl, rfl⟩ | ⟨y, u, rfl, rfl⟩
      · rw [key_ll] at h; exact wpAny_eqBool_int h
      · rw [key_lr] at h; exact SeqAt.EqAt.int_str i t y u _ _ _ _ h
    · rcases keyIs_shape hv with ⟨j, u, rfl, rfl⟩ | ⟨y, u, rfl, rfl⟩
      · rw [key_rl] at h; exact SeqAt.EqAt.str_int x t j u _ _ _ _ h
      · rw [key_rr] at h; exact wpAny_eqBool_str h
  «strs» := fun k x t v h => by
    rcases keyIs_shape h with ⟨i, u, rfl, e⟩ | ⟨y, u, rfl, e⟩
    · exact nomatch e
    · injection e with e1 _
      subst e1
      cases v <;> rfl

theorem mixKind_int (prog : Program) (w : World) (i : Int) (t : Tok) : (mixKind prog w).is (.inl i) (.int i t) = true := keyIs_int i t
theorem mixKind_str (prog : Program) (w : World) (x : Str) (t : Tok) : (mixKind prog w).is (.inr x) (.str x t) = true := keyIs_str x t
end L2

namespace L2
open PySem PySem.Spec PyProof.Rows

inductive V where
  | non | bl (b : Bool) | int (i : Int) | str (x : Str) | byt (b : Array UInt8) | flt (b : UInt64) | ref (a : Addr) | ty (n : String)
  deriving DecidableEq

def RelV : V → Value → Prop
  | .non, u => u = Value.none
  | .bl b, u => u = Value.bool b
  | .int i, u => ∃ t, u = Value.int i t
  | .str x, u => ∃ t, u = Value.str x t
  | .byt b, u => ∃ t, u = Value.bytes b t
  | .flt b, u => ∃ t, u = Value.float b t
  | .ref a, u => u = Value.ref a
  | .ty n, u => u = Value.type n

abbrev Vals : List V → List Value → Prop := Paired RelV
theorem Vals.length {xs : List V} {us : List Value} (r : Vals xs us) : xs.length = us.length := Paired.length r
theorem Vals.get : ∀ {xs : List V} {us : List Value} {i : Nat} {x : V}, Vals xs us → xs[i]? = some x → ∃ u, us[i]? = some u ∧ RelV x u
  | _, _, _, _, .nil, e => by simp at e
  | _, _, 0, _, .cons r _, e => by simp at e; subst e; exact ⟨_, rfl, r⟩
  | _, _, i + 1, x, .cons _ t, e => by
    obtain ⟨u, h1, h2⟩ := Vals.get (i := i) (x := x) t (by simpa using e)
    exact ⟨u, by simpa using h1, h2⟩
theorem Vals.append : ∀ {xs ys : List V} {us ws : List Value}, Vals xs us → Vals ys ws → Vals (xs ++ ys) (us ++ ws)
  | _, _, _, _, .nil, s => s
  | _, _, _, _, .cons r t, s => .cons r (Vals.append t s)
theorem Vals.take : ∀ {xs : List V} {us : List Value} (n : Nat), Vals xs us → Vals (xs.take n) (us.take n)
  | _, _, 0, _ => .nil
  | _, _, _ + 1, .nil => .nil
  | _, _, n + 1, .cons r t => .cons r (Vals.take n t)
theorem Vals.drop : ∀ {xs : List V} {us : List Value} (n : Nat), Vals xs us → Vals (xs.drop n) (us.drop n)
  | _, _, 0, r => r
  | _, _, _ + 1, .nil => .nil
  | _, _, n + 1, .cons _ t => Vals.drop n t
def RelO : Option V → Option Value → Prop
  | some v, some u => RelV v u
  | none, none => True
  | _, _ => False
def KV {κ : Type} : List (κ × V) → List (κ × Value) → Prop := Paired fun (p : κ × V) (q : κ × Value) => p.1 = q.1 ∧ RelV p.2 q.2

def kV : Key → V
  | .inl i => .int i
  | .inr x => .str x

inductive HO where
  | lst (xs : List V)
  | tup (xs : List V)
  | dK (kvs : List (Key × V)) | dT (kvs : List (List Key × V))
  | set (S : Int → Bool) (n : Nat)
  | ins (C dx : Addr) (fs : List (Str × V))
  | own (x : Addr)
  | xd (fs : List (Str × V))
  | met (f x : Addr)
  | rng (lo hi : Int)
  | frz (o : Obj) (u : HO)
  | tbl (ps : Array Value)
  | ext (φ : Heap → Prop)

abbrev Hp := Addr → Option HO
def upd (H : Hp) (a : Addr) (o : HO) : Hp := fun b => if b = a then some o else H b
theorem upd_same {H : Hp} {a : Addr} {o : HO} : upd H a o a = some o := by unfold upd; rw [if_pos rfl]
theorem upd_ne {H : Hp} {a b : Addr} {o : HO} (h : b ≠ a) : upd H a o b = H b := by unfold upd; rw [if_neg h]
theorem ne_of {H : Hp} {a b : Addr} {o u : HO} (h : H a = some o) (h' : H b = some u) (d : o ≠ u) : a ≠ b := by
  intro e; subst e; rw [h] at h'; exact d (Option.some.inj h')
theorem ne_of_none {H : Hp} {a b : Addr} {o : HO} (h : H a = some o) (h' : H b = none) : a ≠ b := by
  intro e; subst e; rw [h] at h'; cases h'

section
variable (P : Program) (w : World)
def ObjOk (H : Hp) (h : Heap) (a : Addr) : HO → Prop
  | .lst xs => xs.length ≤ sizeLine ∧ ∃ (its : List Value) (n : Nat), Vals xs its ∧ h.get? a = some { cls := .type "list", data := .seq its.toArray n }
  | .tup xs => xs.length ≤ sizeLine ∧ ∃ its : List Value, Vals xs its ∧ IsTup h a its.toArray
  | .dK kvs => kvs.length ≤ sizeLine ∧ (a == sysModules) = false ∧ ∃ vs, KV kvs vs ∧ h.DictOf (mixKind P w) a vs
  | .dT kvs => kvs.length ≤ sizeLine ∧ (a == sysModules) = false ∧ ∃ xs : List (List Key × Addr × Value),
      Paired (fun (p : List Key × V) (q : List Key × Addr × Value) => p.1 = q.1 ∧ H q.2.1 = some (.tup (p.1.map kV)) ∧ RelV p.2 q.2.2) kvs xs ∧
      ∃ o es ep, h.get? a = some o ∧ o.ExactDict ∧ o.data = .dict es ep ∧ es.toList = xs.map (entryOfKey (tupleKind (mixKind P w))) ∧ (xs.map (·.1)).Nodup
  | .set S n => h.SetOf (intKind P w) a S n
  | .ins C dx fs => H dx = some (.own a) ∧ fs.length ≤ 1000 ∧ dx ≠ a ∧ h.get? a = some (PySem.W.instObj C dx) ∧
      ∃ mA, h.Ns1 dx mA ∧ (∀ f, RelO (fs.lookup f) (mA f)) ∧ PySem.Within mA (fs.map (·.1))
  | .own _ => ∃ o, h.get? a = some o
  | .xd fs => ∃ mA, h.Ns1 a mA ∧ ∀ f, RelO (fs.lookup f) (mA f)
  | .rng lo hi => ∃ t u v, h.get? a = some { cls := .type "range", data := .fields #[.int lo t, .int hi u, .int 1 v] }
  | .frz o u => h.get? a = some o ∧ ObjOk H h a u
  | .tbl ps => h.get? a = some { cls := .none, data := .fields ps }
  | .met f x => h.get? a = some (PySem.W.methodObj (.ref f) (.ref x))
  | .ext φ => φ h ∧ (∃ o, h.get? a = some o) ∧ ∀ h1 h2 : Heap, φ h1 → (∀ o, h1.get? a = some o → h2.get? a = some o) → φ h2
def HOk (H : Hp) (h : Heap) : Prop := ∀ a o, H a = some o → ObjOk P w H h a o
end

section
variable {P : Program} {w : World} {H H' : Hp} {h h' : Heap} {a : Addr} {o : HO}
theorem ObjOk.lt (x : ObjOk P w H h a o) : a < h.objs.size := by
  cases o with
  | lst xs => obtain ⟨_, _, _, _, e⟩ := x; exact Heap.lt_size e
  | tup xs => obtain ⟨_, _, _, p⟩ := x; exact p.lt
  | dK kvs => obtain ⟨_, _, _, _, o, _, _, e, _⟩ := x; exact Heap.lt_size e
  | dT kvs => obtain ⟨_, _, _, _, o, _, _, e, _⟩ := x; exact Heap.lt_size e
  | set S n => obtain ⟨o, _, _, _, e, _⟩ := x; exact Heap.lt_size e
  | ins C dx fs => obtain ⟨_, _, _, e, _⟩ := x; exact Heap.lt_size e
  | own y => obtain ⟨_, e⟩ := x; exact Heap.lt_size e
  | xd fs => obtain ⟨_, ⟨_, _, _, e, _⟩, _⟩ := x; exact Heap.lt_size e
  | rng lo hi => obtain ⟨_, _, _, e⟩ := x; exact Heap.lt_size e
  | frz ob u => obtain ⟨e, _⟩ := x; exact Heap.lt_size e
  | tbl ps => exact Heap.lt_size (show h.get? a = some _ from x)
  | met f y => exact Heap.lt_size (show h.get? a = some _ from x)
  | ext φ => obtain ⟨_, ⟨_, e⟩, _⟩ := x; exact Heap.lt_size e
theorem Paired.mapP {α β : Type} {F G : α → β → Prop} : ∀ {l₁ : List α} {l₂ : List β}, Paired F l₁ l₂ → (∀ a b, F a b → G a b) → Paired G l₁ l₂
  | _, _, .nil, _ => .nil
  | _, _, .cons r t, f => .cons (f _ _ r) (Paired.mapP t f)
theorem ObjOk.stay (x : ObjOk P w H h a o) (k : ∀ b u, (b = a ∨ H b = some (.own a)) → h.get? b = some u → h'.get? b = some u)
    (ho : ∀ b, H b = some (.own a) → H' b = some (.own a)) (ht : ∀ b xs, H b = some (.tup xs) → H' b = some (.tup xs)) : ObjOk P w H' h' a o := by
  induction o with
  | lst xs => obtain ⟨z, its, n, r, e⟩ := x; exact ⟨z, its, n, r, k _ _ (.inl rfl) e⟩
  | tup xs => obtain ⟨z, its, r, ob, e, c⟩ := x; exact ⟨z, its, r, ob, k _ _ (.inl rfl) e, c⟩
  | dK kvs => obtain ⟨z, y, vs, r, ob, es, ep, e, c⟩ := x; exact ⟨z, y, vs, r, ob, es, ep, k _ _ (.inl rfl) e, c⟩
  | dT kvs =>
    obtain ⟨z, y, xs, r, ob, es, ep, e, c⟩ := x
    exact ⟨z, y, xs, Paired.mapP r fun p q z => ⟨z.1, ht _ _ z.2.1, z.2.2⟩, ob, es, ep, k _ _ (.inl rfl) e, c⟩
  | set S n => obtain ⟨ob, es, ep, t, e, c⟩ := x; exact ⟨ob, es, ep, t, k _ _ (.inl rfl) e, c⟩
  | ins C dx fs =>
    obtain ⟨d, z, ne, e, mA, ⟨od, es, ep, e2, c⟩, r⟩ := x
    exact ⟨ho _ d, z, ne, k _ _ (.inl rfl) e, mA, ⟨od, es, ep, k _ _ (.inr d) e2, c⟩, r⟩
  | own y => obtain ⟨ob, e⟩ := x; exact ⟨ob, k _ _ (.inl rfl) e⟩
  | xd fs => obtain ⟨mA, ⟨od, es, ep, e, c⟩, r⟩ := x; exact ⟨mA, ⟨od, es, ep, k _ _ (.inl rfl) e, c⟩, r⟩
  | rng lo hi => obtain ⟨t, u, v, e⟩ := x; exact ⟨t, u, v, k _ _ (.inl rfl) e⟩
  | frz ob u ih => obtain ⟨e, q⟩ := x; exact ⟨k _ _ (.inl rfl) e, ih q⟩
  | tbl ps =>
    have e : h.get? a = some { cls := .none, data := .fields ps } := x
    show h'.get? a = some { cls := .none, data := .fields ps }
    exact k a _ (.inl rfl) e
  | met f y =>
    have e : h.get? a = some (PySem.W.methodObj (.ref f) (.ref y)) := x
    show h'.get? a = some (PySem.W.methodObj (.ref f) (.ref y))
    exact k a _ (.inl rfl) e
  | ext φ => obtain ⟨p, ⟨o, e⟩, st⟩ := x; exact ⟨st _ _ p fun o q => k _ _ (.inl rfl) q, ⟨o, k _ _ (.inl rfl) e⟩, st⟩
theorem HOk.lt (x : HOk P w H h) (e : H a = some o) : a < h.objs.size := (x a o e).lt
theorem HOk.fresh (x : HOk P w H h) (e : h.objs.size ≤ a) : H a = none := by
  cases q : H a with
  | none => rfl
  | some u => exact absurd (Nat.lt_of_lt_of_le (x.lt q) e) (Nat.lt_irrefl _)
theorem HOk.kept (x : HOk P w H h) (k : ∀ b u, h.get? b = some u → h'.get? b = some u) : HOk P w H h' := fun a o e =>
  (x a o e).stay (fun b u _ q => k b u q) (fun _ q => q) fun _ _ q => q
theorem HOk.laid (x : HOk P w H h) (k : ∀ b u, h.get? b = some u → h'.get? b = some u) (hp : h.objs.size ≤ a) (new : ObjOk P w (upd H a o) h' a o) : HOk P w (upd H a o) h' := fun b u e => by
  have hn := x.fresh hp
  by_cases hb : b = a
  · subst hb; rw [upd_same] at e; cases e; exact new
  · rw [upd_ne hb] at e
    exact (x b u e).stay (fun c v _ q => k c v q) (fun c q => by rw [upd_ne (ne_of_none q hn)]; exact q) fun c xs q => by rw [upd_ne (ne_of_none q hn)]; exact q
end

def Rd (H : Hp) (a : Addr) (u : HO) : Prop := H a = some u ∨ ∃ o, H a = some (.frz o u)
theorem Rd.ok {P : Program} {w : World} {H : Hp} {h : Heap} {a : Addr} {u : HO} (r : Rd H a u) (x : HOk P w H h) : ObjOk P w H h a u := by
  rcases r with r | ⟨o, r⟩
  · exact x a u r
  · obtain ⟨_, q⟩ := x a _ r
    exact q
def Mut : Option HO → Prop
  | some (.lst _) => True
  | some (.dK _) => True
  | some (.dT _) => True
  | some (.set _ _) => True
  | some (.ins _ _ _) => True
  | some (.ext _) => True
  | _ => False
section
variable {P : Program} {w : World} {H : Hp} {h h' : Heap} {x e : Addr} {o' : HO}
theorem HOk.write (ok : HOk P w H h) (mu : Mut (H x)) (he : e = x ∨ H e = some (.own x)) (k : ∀ b u, b ≠ e → h.get? b = some u → h'.get? b = some u) (heo : ∃ u, h'.get? e = some u)
    (new : ObjOk P w (upd H x o') h' x o') : HOk P w (upd H x o') h' := fun b u q => by
  have nown : ∀ c y, H c = some (.own y) → c ≠ x := fun c y r z => by subst z; rw [r] at mu; exact mu
  have ntup : ∀ c xs, H c = some (.tup xs) → c ≠ x := fun c xs r z => by subst z; rw [r] at mu; exact mu
  by_cases hb : b = x
  · subst hb; rw [upd_same] at q; cases q; exact new
  · rw [upd_ne hb] at q
    by_cases hbe : b = e
    · have q' : H b = some (.own x) := by
        rcases he with z | z
        · exact absurd (hbe.trans z) hb
        · rw [hbe]; exact z
      rw [q] at q'; cases q'
      obtain ⟨v, hv⟩ := heo
      exact ⟨v, by rw [hbe]; exact hv⟩
    · refine (ok b u q).stay (fun c v hc r => k c v ?_ r) (fun c r => by rw [upd_ne (nown c b r)]; exact r) fun c xs r => by rw [upd_ne (ntup c xs r)]; exact r
      rcases hc with rfl | hc
      · exact hbe
      · rintro rfl
        rcases he with z | z
        · exact nown c b hc z
        · rw [hc] at z; cases z; exact hb rfl
end

structure Un (fs ex : List Addr) (H H' : Hp) (h h' : Heap) : Prop where
  keep : ∀ b o, h.get? b = some o → H b = none → b ∉ fs → b ∉ ex → h'.get? b = some o
  slot : ∀ b o, h.get? b = some o → H b = none → b ∈ fs → b ∉ ex → ∃ sl, h'.get? b = some { o with slots := sl }
  free : ∀ b o, h.get? b = some o → H b = none → b ∉ ex → H' b = none
  there : ∀ b o, h.get? b = some o → b ∉ ex → ∃ o', h'.get? b = some o'
  tups : ∀ b xs, H b = some (.tup xs) → H' b = some (.tup xs)
  frzs : ∀ b o u, H b = some (.frz o u) → H' b = some (.frz o u)
  tbls : ∀ b ps, H b = some (.tbl ps) → ∃ more, H' b = some (.tbl (ps ++ more))
section
variable {fs fs' ex ex' : List Addr} {H H1 H2 : Hp} {h h1 h2 h' : Heap} {a x e : Addr} {o : HO}
theorem Un.any (u : Un fs ex H H1 h h1) {b : Addr} {ob : Obj} (q : h.get? b = some ob) (n : H b = none) (hx : b ∉ ex) : ∃ sl, h1.get? b = some { ob with slots := sl } := by
  by_cases hb : b ∈ fs
  · exact u.slot b ob q n hb hx
  · exact ⟨ob.slots, u.keep b ob q n hb hx⟩
theorem Un.trans (a : Un fs ex H H1 h h1) (b : Un fs ex H1 H2 h1 h2) : Un fs ex H H2 h h2 where
  keep := fun c ob q n hc hx => b.keep c ob (a.keep c ob q n hc hx) (a.free c ob q n hx) hc hx
  slot := fun c ob q n hc hx => by
    obtain ⟨sl, e1⟩ := a.slot c ob q n hc hx
    obtain ⟨sl', e2⟩ := b.slot c _ e1 (a.free c ob q n hx) hc hx
    exact ⟨sl', e2⟩
  free := fun c ob q n hx => by
    obtain ⟨o', e1⟩ := a.there c ob q hx
    exact b.free c o' e1 (a.free c ob q n hx) hx
  there := fun c ob q hx => by
    obtain ⟨o', e1⟩ := a.there c ob q hx
    exact b.there c o' e1 hx
  tups := fun c xs q => b.tups c xs (a.tups c xs q)
  frzs := fun c ob xs q => b.frzs c ob xs (a.frzs c ob xs q)
  tbls := fun c ps q => by
    obtain ⟨m1, e1⟩ := a.tbls c ps q
    obtain ⟨m2, e2⟩ := b.tbls c _ e1
    exact ⟨m1 ++ m2, by rw [e2, Array.append_assoc]⟩
theorem Un.kept (k : ∀ b u, h.get? b = some u → h'.get? b = some u) : Un fs ex H H h h' :=
  ⟨fun b ob q _ _ _ => k b ob q, fun b ob q _ _ _ => ⟨ob.slots, k b ob q⟩, fun _ _ _ n _ => n, fun b ob q _ => ⟨ob, k b ob q⟩, fun _ _ q => q, fun _ _ _ q => q, fun _ ps q => ⟨#[], by rw [q]; simp⟩⟩
theorem Un.refl : Un fs ex H H h h := Un.kept fun _ _ q => q
theorem Un.laid (k : ∀ b u, h.get? b = some u → h'.get? b = some u) (hp : h.objs.size ≤ a) (hn : H a = none) : Un fs ex H (upd H a o) h h' where
  keep := fun b u q _ _ _ => k b u q
  slot := fun b u q _ _ _ => ⟨u.slots, k b u q⟩
  free := fun b u q n _ => by rw [upd_ne (Nat.ne_of_lt (Nat.lt_of_lt_of_le (Heap.lt_size q) hp))]; exact n
  there := fun b u q _ => ⟨u, k b u q⟩
  tups := fun b xs q => by rw [upd_ne (ne_of_none q hn)]; exact q
  frzs := fun b u xs q => by rw [upd_ne (ne_of_none q hn)]; exact q
  tbls := fun b ps q => ⟨#[], by rw [upd_ne (ne_of_none q hn), q]; simp⟩
theorem Un.write (mu : Mut (H x)) (he : e = x ∨ H e = some (.own x)) (k : ∀ b u, b ≠ e → h.get? b = some u → h'.get? b = some u) (heo : ∃ u, h'.get? e = some u) : Un fs ex H (upd H x o) h h' := by
  have hx : ∀ b, H b = none → b ≠ x := fun b n z => by subst z; rw [n] at mu; exact mu
  have hb : ∀ b, H b = none → b ≠ e := fun b n z => by
    subst z
    rcases he with r | r
    · exact hx b n r
    · rw [n] at r; cases r
  have hm : ∀ b u, H b = some u → ¬ Mut (some u) → b ≠ x := fun b u q nm z => by subst z; rw [q] at mu; exact nm mu
  refine ⟨fun b u q n _ _ => k b u (hb b n) q, fun b u q n _ _ => ⟨u.slots, k b u (hb b n) q⟩, fun b u q n _ => by rw [upd_ne (hx b n)]; exact n, fun b u q _ => ?_,
    fun b xs q => by rw [upd_ne (hm b _ q fun z => z)]; exact q, fun b u xs q => by rw [upd_ne (hm b _ q fun z => z)]; exact q, fun b ps q => ⟨#[], by rw [upd_ne (hm b _ q fun z => z), q]; simp⟩⟩
  by_cases hbe : b = e
  · subst hbe; exact heo
  · exact ⟨u, k b u hbe q⟩
end

def trk (h : Heap) (H : Hp) : List Addr := (List.range h.objs.size).filter fun a => (H a).isSome
def hidT (h : Heap) (H : Hp) : Heap := PySem.W.hideAll h (trk h H)
theorem hidT_size (h : Heap) (H : Hp) : (hidT h H).objs.size = h.objs.size := PySem.W.hideAll_size _ _
theorem hidT_get {h : Heap} {H : Hp} {b : Addr} {o : Obj} (e : h.get? b = some o) (n : H b = none) : (hidT h H).get? b = some o :=
  PySem.W.hideAll_get _ e fun hm => by
    have q : (H b).isSome = true := (List.mem_filter.mp hm).2
    rw [n] at q; simp at q
theorem of_hidT {h : Heap} {H : Hp} {b : Addr} {o : Obj} (e : (hidT h H).get? b = some o) : h.get? b = some o ∧ H b = none := by
  have e' : h.get? b = some o := PySem.W.of_hideAll (trk h H) e
  refine ⟨e', ?_⟩
  cases q : H b with
  | none => rfl
  | some x =>
    have hm : b ∈ trk h H := List.mem_filter.mpr ⟨List.mem_range.mpr (Heap.lt_size e'), by simp [q]⟩
    have z : (hidT h H).get? b = none := PySem.W.hideAll_none (trk h H) hm
    rw [z] at e; cases e

def allNews (g h : Heap) (L : Addr) : List (Addr × Obj) := (List.range h.objs.size).filterMap fun a => if a = L ∨ (g.get? a).isSome = true then none else (h.get? a).map fun o => (a, o)
def rest (g h : Heap) (L d : Addr) : List (Addr × Obj) := (allNews g h L).filter fun p => decide (p.1 ≠ d)
end L2

namespace L2
open PySem PySem.Spec PyProof.Rows

structure Mod (K : PySem.W.Frag) (mg : Str → Option Value) (base : Heap) : Prop where
  kin : K.In base
  glob : base.Ns mainGlobals mg
  blt : ∃ mb, base.Ns builtinsNs mb ∧ ∀ x : Str, x ≠ "__name__" → mb x = bootBuiltins x
  nolimit : base.NoLimit

structure Cx where
  prog : Program
  w : World
  K : PySem.W.Frag
  mg : Str → Option Value
  base : Heap
  A : Around
  N : List Str
  s₀ : Shared
  H₀ : Hp
  env : Env
  outer : List Env
  stack : List Env
  ex : List Addr
  fn : Str → Bool
  calm : Bool
  pn : List (Addr × Obj)
  xe : Value → Shared → Prop
def frs (l : List Env) : List Addr := l.filterMap (·.frame)
abbrev Cx.fs (X : Cx) : List Addr := frs X.outer

def Vis (sc : Scope) (x : Str) : Prop := sc.names.lookup x = some .local ∨ sc.names.lookup x = some .cell ∨ sc.names.lookup x = some .free
def Loc (sc : Scope) (x : Str) : Prop := sc.names.lookup x = some .local ∨ sc.names.lookup x = some .cell
def Look (env : Env) (h : Heap) (m : Str → Option Value) (x : Str) (u : Value) : Prop :=
  (env.kindOf x = some .local ∧ m x = some u) ∨ ((env.kindOf x = some .cell ∨ env.kindOf x = some .free) ∧ ∃ c, env.cells.lookup x = some c ∧ h.IsCell c (some u))

structure Cx.Ok (X : Cx) : Prop where
  mod : Mod X.K X.mg X.base
  kind : X.env.scope.kind = .function
  glob : X.env.globals = mainGlobals
  blt : X.env.builtins = builtinsNs
  above : X.s₀.heap.objs.size ≤ X.env.locals
  inj : ∀ x y c, X.env.cells.lookup x = some c → X.env.cells.lookup y = some c → x = y
  has : ∀ x, (X.env.kindOf x = some .cell ∨ X.env.kindOf x = some .free) → ∃ c, X.env.cells.lookup x = some c
  cab : ∀ x c, X.fn x = true → X.env.cells.lookup x = some c → X.s₀.heap.objs.size ≤ c
  hd : X.calm = true → X.A.handled = none
  frames : X.A.frames = some X.stack
  stk : X.stack = X.outer ∨ (X.stack = X.env :: X.outer ∧ X.env.frame = some X.env.locals)
  exf : ∀ b ∈ X.ex, b ≠ X.env.locals ∧ ∀ x c, X.env.cells.lookup x = some c → c ≠ b
  bs : ∀ b o, X.base.get? b = some o → X.s₀.heap.get? b = some o ∧ X.H₀ b = none
  bsz : X.base.objs.size ≤ X.s₀.heap.objs.size
  noex : ∀ b o, X.base.get? b = some o → b ∉ X.ex
  exfs : ∀ b ∈ X.ex, b ∉ X.fs
  funs : X.s₀.heap.FunFrames X.base X.outer
  frf : ∀ b ∈ X.fs, X.H₀ b = none

structure Inv (X : Cx) (pins : List (Addr × Obj)) (σ : List (Option V)) (H : Hp) (s : Shared) : Prop where
  ok : X.Ok
  os : s.os = X.s₀.os
  bare : AllBare s.gens
  base : Un X.fs X.ex X.H₀ H X.s₀.heap s.heap
  loc : ∃ m, s.heap.Ns X.env.locals m ∧ ∀ (i : Nat) (x : Str) (v : V), X.N[i]? = some x → σ[i]? = some (some v) → Vis X.env.scope x → ∃ u, RelV v u ∧ Look X.env s.heap m x u
  cell : ∀ x c, X.env.cells.lookup x = some c → ∃ v, s.heap.IsCell c v
  free : H X.env.locals = none
  freeC : ∀ x c, X.env.cells.lookup x = some c → H c = none
  pin : ∀ p ∈ X.pn ++ pins, s.heap.get? p.1 = some p.2 ∧ H p.1 = none ∧ p.1 ≠ X.env.locals ∧ p.1 ∉ X.fs ∧ ∀ v, p.2.data ≠ .cell v
  hok : HOk X.prog X.w H s.heap
  len : σ.length = X.N.length

section
variable {X : Cx} {pins : List (Addr × Obj)} {σ : List (Option V)} {H H' : Hp} {s : Shared} {h' : Heap}

theorem Cx.Ok.nofr (ok : X.Ok) {b : Addr} {o : Obj} (e : X.base.get? b = some o) : b ∉ X.fs := fun hb => by
  have := (ok.funs.mem hb).1
  rw [e] at this; cases this
theorem Inv.bs (I : Inv X pins σ H s) : ∀ b o, X.base.get? b = some o → s.heap.get? b = some o ∧ H b = none := fun b o e =>
  ⟨I.base.keep b o (I.ok.bs b o e).1 (I.ok.bs b o e).2 (I.ok.nofr e) (I.ok.noex b o e), I.base.free b o (I.ok.bs b o e).1 (I.ok.bs b o e).2 (I.ok.noex b o e)⟩
theorem Inv.bk (I : Inv X pins σ H s) : ∀ b o, X.base.get? b = some o → s.heap.get? b = some o := fun b o e => (I.bs b o e).1
theorem Inv.mod (I : Inv X pins σ H s) : Mod X.K X.mg X.base := I.ok.mod
theorem Inv.kIn (I : Inv X pins σ H s) : X.K.In s.heap := I.ok.mod.kin.keeps I.bk
theorem Inv.lt (I : Inv X pins σ H s) : X.env.locals < s.heap.objs.size := let ⟨_, hn, _⟩ := I.loc; hn.lt
theorem Inv.sz (I : Inv X pins σ H s) : X.s₀.heap.objs.size ≤ s.heap.objs.size := Nat.le_trans I.ok.above (Nat.le_of_lt I.lt)
theorem Inv.nofs (I : Inv X pins σ H s) {a : Addr} (h : s.heap.objs.size ≤ a) : a ∉ X.fs := fun hb => by
  obtain ⟨_, o, ho, _⟩ := I.ok.funs.mem hb
  exact absurd (Nat.lt_of_lt_of_le (Heap.lt_size ho) (Nat.le_trans I.sz h)) (Nat.lt_irrefl _)
theorem Inv.cne (I : Inv X pins σ H s) : ∀ x c, X.env.cells.lookup x = some c → c ≠ X.env.locals := fun x c e z => by
  obtain ⟨v, o, ho, hd⟩ := I.cell x c e
  obtain ⟨m, ⟨o', es, ep, ho', hd', _⟩, _⟩ := I.loc
  rw [z, ho'] at ho; cases ho; rw [hd'] at hd; cases hd
theorem Inv.funs (I : Inv X pins σ H s) : s.heap.FunFrames X.base X.outer := by
  have all : ∀ (l : List Env), (∀ b ∈ frs l, b ∈ X.fs) → X.s₀.heap.FunFrames X.base l → s.heap.FunFrames X.base l := by
    intro l
    induction l with
    | nil => intro _ _; trivial
    | cons env r ih =>
      intro hs hl
      obtain ⟨hk, ⟨L, o, hf, hn, ho, hd⟩, hr⟩ := hl
      have hL : L ∈ X.fs := hs L (by unfold frs; rw [List.filterMap_cons, hf]; exact List.mem_cons_self)
      obtain ⟨sl, e⟩ := I.base.slot L o ho (I.ok.frf L hL) hL fun z => I.ok.exfs L z hL
      exact ⟨hk, ⟨L, _, hf, hn, e, hd⟩, ih (fun b hb => hs b (by unfold frs; rw [List.filterMap_cons, hf]; exact List.mem_cons_of_mem _ hb)) hr⟩
  exact all X.outer (fun _ hb => hb) I.ok.funs

theorem Inv.stack (I : Inv X pins σ H s) : s.heap.FunFrames X.base X.stack := by
  rcases I.ok.stk with e | ⟨e, hf⟩
  · rw [e]; exact I.funs
  · rw [e]
    obtain ⟨m, hn, _⟩ := I.loc
    refine .cons (by rw [I.ok.kind]; decide) hf hn ?_ I.funs
    exact Heap.get?_none_of_le (Nat.le_trans I.ok.bsz I.ok.above)
theorem Inv.stkSub (I : Inv X pins σ H s) : ∀ b ∈ frs X.stack, b ∈ X.env.locals :: X.fs := fun b hb => by
  rcases I.ok.stk with e | ⟨e, hf⟩
  · rw [e] at hb; exact List.mem_cons_of_mem _ hb
  · rw [e] at hb
    unfold frs at hb
    rw [List.filterMap_cons, hf] at hb
    exact hb
theorem Inv.stkFree (I : Inv X pins σ H s) : ∀ b ∈ frs X.stack, H b = none := fun b hb => by
  rcases List.mem_cons.mp (I.stkSub b hb) with e | hb
  · rw [e]; exact I.free
  · obtain ⟨_, o, ho, _⟩ := I.ok.funs.mem hb
    exact I.base.free b o ho (I.ok.frf b hb) fun z => I.ok.exfs b z hb

theorem Inv.step {g' : Array GenState} {t' : Nat} {d' : Drawn} {ch : List Addr} (I : Inv X pins σ H s)
    (hch : ∀ b ∈ ch, (b ∈ X.ex ∨ X.s₀.heap.objs.size ≤ b) ∧ b ≠ X.env.locals ∧ (∀ x c, X.env.cells.lookup x = some c → c ≠ b) ∧ ∀ p ∈ X.pn ++ pins, p.1 ≠ b)
    (keep : ∀ b o, b ≠ X.env.locals → b ∉ X.fs → b ∉ ch → s.heap.get? b = some o → H b = none → h'.get? b = some o)
    (slot : ∀ b o, b ≠ X.env.locals → b ∈ X.fs → b ∉ ch → s.heap.get? b = some o → H b = none → ∃ sl, h'.get? b = some { o with slots := sl }) (free : ∀ b o, b ∉ ch → s.heap.get? b = some o → H b = none → H' b = none)
    (there : ∀ b o, b ∉ ch → s.heap.get? b = some o → ∃ o', h'.get? b = some o')
    (tups : ∀ b xs, H b = some (.tup xs) → H' b = some (.tup xs)) (frzs : ∀ b o u, H b = some (.frz o u) → H' b = some (.frz o u)) (tbls : ∀ b ps, H b = some (.tbl ps) → ∃ more, H' b = some (.tbl (ps ++ more)))
    (ns : ∀ m, s.heap.Ns X.env.locals m → h'.Ns X.env.locals m) (hok : HOk X.prog X.w H' h') (hg : AllBare g') :
    Inv X pins σ H' { s with heap := h', gens := g', drawn := d', toks := t' } := by
  have neL : ∀ b o, X.s₀.heap.get? b = some o → b ≠ X.env.locals := fun b o e => Nat.ne_of_lt (Nat.lt_of_lt_of_le (Heap.lt_size e) I.ok.above)
  have neC : ∀ b o, X.s₀.heap.get? b = some o → b ∉ X.ex → b ∉ ch := fun b o e hx hb => by
    rcases (hch b hb).1 with z | z
    · exact hx z
    · exact absurd (Nat.lt_of_lt_of_le (Heap.lt_size e) z) (Nat.lt_irrefl _)
  have cellK : ∀ x c, X.env.cells.lookup x = some c → ∀ v, s.heap.IsCell c v → h'.IsCell c v := fun x c e v ⟨o, ho, hd⟩ => by
    have nch : c ∉ ch := fun z => (hch c z).2.2.1 x c e rfl
    by_cases hc : c ∈ X.fs
    · obtain ⟨sl, q⟩ := slot c o (I.cne x c e) hc nch ho (I.freeC x c e)
      exact ⟨_, q, hd⟩
    · exact ⟨o, keep c o (I.cne x c e) hc nch ho (I.freeC x c e), hd⟩
  refine ⟨I.ok, I.os, hg, ⟨fun b o e n hb hx => ?_, fun b o e n hb hx => ?_, fun b o e n hx => ?_, fun b o e hx => ?_, fun b xs e => tups b xs (I.base.tups b xs e), fun b o xs e => frzs b o xs (I.base.frzs b o xs e), fun b ps e => ?_⟩, ?_, fun x c e => ?_, ?_, fun x c e => ?_, fun p hp => ?_, hok, I.len⟩
  · exact keep b o (neL b o e) hb (neC b o e hx) (I.base.keep b o e n hb hx) (I.base.free b o e n hx)
  · obtain ⟨sl, e1⟩ := I.base.slot b o e n hb hx
    obtain ⟨sl', e2⟩ := slot b _ (neL b o e) hb (neC b o e hx) e1 (I.base.free b o e n hx)
    exact ⟨sl', e2⟩
  · obtain ⟨o', e1⟩ := I.base.there b o e hx
    exact free b o' (neC b o e hx) e1 (I.base.free b o e n hx)
  · obtain ⟨o', e1⟩ := I.base.there b o e hx
    exact there b o' (neC b o e hx) e1
  · obtain ⟨m1, e1⟩ := I.base.tbls b ps e
    obtain ⟨m2, e2⟩ := tbls b _ e1
    exact ⟨m1 ++ m2, by rw [e2, Array.append_assoc]⟩
  · obtain ⟨m, hn, hl⟩ := I.loc
    refine ⟨m, ns m hn, fun i x v e1 e2 e3 => ?_⟩
    obtain ⟨u, r, l⟩ := hl i x v e1 e2 e3
    refine ⟨u, r, ?_⟩
    rcases l with l | ⟨k, c, e, z⟩
    · exact .inl l
    · exact .inr ⟨k, c, e, cellK x c e _ z⟩
  · obtain ⟨v, z⟩ := I.cell x c e
    exact ⟨v, cellK x c e v z⟩
  · obtain ⟨m, ⟨o, _, _, ho, _⟩, _⟩ := I.loc
    exact free _ o (fun z => (hch _ z).2.1 rfl) ho I.free
  · obtain ⟨v, o, ho, hd⟩ := I.cell x c e
    exact free c o (fun z => (hch c z).2.2.1 x c e rfl) ho (I.freeC x c e)
  · obtain ⟨e, n, ne, nf, d⟩ := I.pin p hp
    have nch : p.1 ∉ ch := fun z => (hch p.1 z).2.2.2 p hp rfl
    exact ⟨keep p.1 p.2 ne nf nch e n, free p.1 p.2 nch e n, ne, nf, d⟩
theorem Inv.un {t' : Nat} (I : Inv X pins σ H s) (u : Un X.fs [] H H' s.heap h') (hok : HOk X.prog X.w H' h') : Inv X pins σ H' { s with heap := h', toks := t' } := by
  obtain ⟨m, ⟨o, es, ep, ho, r⟩, _⟩ := id I.loc
  obtain ⟨sl, hL⟩ := u.any ho I.free (by simp)
  exact I.step (g' := s.gens) (d' := s.drawn) (ch := []) (fun _ z => nomatch z) (fun b o _ hb _ e n => u.keep b o e n hb (by simp)) (fun b o _ hb _ e n => u.slot b o e n hb (by simp)) (fun b o _ e n => u.free b o e n (by simp)) (fun b o _ e => u.there b o e (by simp)) u.tups u.frzs u.tbls (fun m' hm => by
    obtain ⟨o', es', ep', ho', r'⟩ := hm
    rw [ho] at ho'; cases ho'
    exact ⟨_, es', ep', hL, r'⟩) hok I.bare
theorem Inv.call {g' : Array GenState} {t' : Nat} {d' : Drawn} {ch : List Addr} (I : Inv X pins σ H s) (u : Un (frs X.stack) ch H H' s.heap h') (hok : HOk X.prog X.w H' h') (hg : AllBare g')
    (hch : ∀ b ∈ ch, (b ∈ X.ex ∨ X.s₀.heap.objs.size ≤ b) ∧ b ≠ X.env.locals ∧ (∀ x c, X.env.cells.lookup x = some c → c ≠ b) ∧ ∀ p ∈ X.pn ++ pins, p.1 ≠ b) :
    Inv X pins σ H' { s with heap := h', gens := g', drawn := d', toks := t' } := by
  obtain ⟨m, ⟨o, es, ep, ho, r⟩, _⟩ := id I.loc
  obtain ⟨sl, hL⟩ := u.any ho I.free fun z => (hch _ z).2.1 rfl
  exact I.step (ch := ch) hch (fun b o hL hb hc e n => u.keep b o e n (fun z => (List.mem_cons.mp (I.stkSub b z)).elim hL hb) hc) (fun b o _ _ hc e n => u.any e n hc) (fun b o hc e n => u.free b o e n hc) (fun b o hc e => u.there b o e hc) u.tups u.frzs u.tbls (fun m' hm => by
    obtain ⟨o', es', ep', ho', r'⟩ := hm
    rw [ho] at ho'; cases ho'
    exact ⟨_, es', ep', hL, r'⟩) hok hg
theorem Inv.turned {t' : Nat} {it : Addr} (I : Inv X pins σ H s) (k : ∀ b o, b ≠ it → s.heap.get? b = some o → h'.get? b = some o) (hn : H it = none) (hL : it ≠ X.env.locals)
    (h1 : it ∈ X.ex ∨ X.s₀.heap.objs.size ≤ it) (h2 : ∀ x c, X.env.cells.lookup x = some c → c ≠ it) (h3 : ∀ p ∈ X.pn ++ pins, p.1 ≠ it) : Inv X pins σ H { s with heap := h', toks := t' } := by
  have nit : ∀ b u, H b = some u → b ≠ it := fun b u e z => by rw [z, hn] at e; cases e
  refine I.step (g' := s.gens) (d' := s.drawn) (ch := [it]) (fun b hb => ?_) (fun b o _ _ hc e _ => k b o (fun z => hc (by simp [z])) e) (fun b o _ _ hc e _ => ⟨o.slots, k b o (fun z => hc (by simp [z])) e⟩) (fun _ _ _ _ n => n)
    (fun b o hc e => ⟨o, k b o (fun z => hc (by simp [z])) e⟩) (fun _ _ e => e) (fun _ _ _ e => e) (fun b ps e => ⟨#[], by rw [e]; simp⟩) (fun m hm => ?_) (fun b u e => ?_) I.bare
  · have e : b = it := by simpa using hb
    subst e
    exact ⟨h1, hL, h2, h3⟩
  · obtain ⟨o, es, ep, ho, r⟩ := hm
    exact ⟨o, es, ep, k _ o (Ne.symm hL) ho, r⟩
  · refine (I.hok b u e).stay (fun c v hc q => k c v ?_ q) (fun _ q => q) fun _ _ q => q
    rcases hc with z | z
    · rw [z]; exact nit b u e
    · exact nit c _ z
theorem Inv.tok (I : Inv X pins σ H s) (t : Nat) : Inv X pins σ H { s with toks := t } := I.un (h' := s.heap) (t' := t) Un.refl I.hok
theorem Inv.kept {t' : Nat} (I : Inv X pins σ H s) (k : ∀ b u, s.heap.get? b = some u → h'.get? b = some u) : Inv X pins σ H { s with heap := h', toks := t' } := I.un (Un.kept k) (I.hok.kept k)
theorem Inv.laid {a : Addr} {o : HO} {t' : Nat} (I : Inv X pins σ H s) (k : ∀ b u, s.heap.get? b = some u → h'.get? b = some u) (hp : s.heap.objs.size ≤ a) (new : ObjOk X.prog X.w (upd H a o) h' a o) :
    Inv X pins σ (upd H a o) { s with heap := h', toks := t' } := I.un (Un.laid k hp (I.hok.fresh hp)) (I.hok.laid k hp new)
theorem Inv.write {x e : Addr} {o : HO} {t' : Nat} (I : Inv X pins σ H s) (mu : Mut (H x)) (he : e = x ∨ H e = some (.own x)) (k : ∀ b u, b ≠ e → s.heap.get? b = some u → h'.get? b = some u) (heo : ∃ u, h'.get? e = some u)
    (new : ObjOk X.prog X.w (upd H x o) h' x o) : Inv X pins σ (upd H x o) { s with heap := h', toks := t' } := I.un (Un.write mu he k heo) (I.hok.write mu he k heo new)
theorem Inv.pins_of {pins' : List (Addr × Obj)} (I : Inv X pins σ H s) (h : ∀ p ∈ pins', s.heap.get? p.1 = some p.2 ∧ H p.1 = none ∧ p.1 ≠ X.env.locals ∧ p.1 ∉ X.fs ∧ ∀ v, p.2.data ≠ .cell v) : Inv X pins' σ H s :=
  ⟨I.ok, I.os, I.bare, I.base, I.loc, I.cell, I.free, I.freeC, fun p hp => (List.mem_append.mp hp).elim (fun z => I.pin p (List.mem_append_left _ z)) (h p), I.hok, I.len⟩

theorem nodup_ix {N : List Str} (hN : N.Nodup) {i j : Nat} {x : Str} (a : N[i]? = some x) (b : N[j]? = some x) : i = j := by
  obtain ⟨h1, e1⟩ := List.getElem?_eq_some_iff.mp a
  obtain ⟨h2, e2⟩ := List.getElem?_eq_some_iff.mp b
  exact (List.getElem_inj hN).mp (e1.trans e2.symm)

theorem store_ok2 {M : Model} {A : Around} {E : Value → Shared → Prop} {i : Nat} {x : Str} {v : V} {u : Value} {Q : Unit → Shared → Prop} (I : Inv X pins σ H s) (hN : X.N.Nodup) (hi : X.N[i]? = some x) (hx : Loc X.env.scope x) (r : RelV v u)
    (h : ∀ s', Inv X pins (σ.set i (some v)) H s' → (∃ a, Heap.SameBut a s.heap s'.heap ∧ (a = X.env.locals ∨ X.env.cells.lookup x = some a)) → Q () s') (hf : X.fn x = true ∨ X.env.scope.names.lookup x = some .local := by first | exact .inl rfl | exact .inr rfl | assumption) : wpAny M A (storeName X.env x u) Q E s := by
  obtain ⟨m, hn, hl⟩ := id I.loc
  have hcls : (X.env.scope.kind == .class || (X.env.scope.kind == .module && X.env.locals != X.env.globals)) = false := by rw [I.ok.kind]; rfl
  have hiσ : i < σ.length := by rw [I.len]; exact (List.getElem?_eq_some_iff.mp hi).1
  have cne := I.cne
  have tracked : ∀ {a : Addr} {h' : Heap}, (∃ o, s.heap.get? a = some o ∧ H a = none) → Heap.SameBut a s.heap h' → HOk X.prog X.w H h' := fun {a h'} ha hs b ob e => by
    obtain ⟨_, _, hfree⟩ := ha
    refine (I.hok b ob e).stay (fun c w' hc q => (hs.2 c ?_).trans q) (fun _ q => q) fun _ _ q => q
    rintro rfl
    rcases hc with rfl | hc
    · rw [hfree] at e; cases e
    · rw [hfree] at hc; cases hc
  rcases hx with hk | hk
  · refine wpAny_storeName_local hk hn (fun h' hn' hs => ?_) hcls
    obtain ⟨oL, _, _, hoL, _⟩ := id hn
    refine h _ ⟨I.ok, I.os, I.bare, ⟨fun b o e n hb hx => ?_, fun b o e n hb hx => ?_, I.base.free, fun b o e hx => ?_, I.base.tups, I.base.frzs, I.base.tbls⟩, ⟨_, hn', fun j y v' e1 e2 e3 => ?_⟩, fun y c e => ?_, I.free, I.freeC, fun p hp => ?_, tracked ⟨oL, hoL, I.free⟩ hs, by simpa using I.len⟩ ⟨_, hs, .inl rfl⟩
    · exact (hs.2 b (Nat.ne_of_lt (Nat.lt_of_lt_of_le (Heap.lt_size e) I.ok.above))).trans (I.base.keep b o e n hb hx)
    · obtain ⟨sl, e1⟩ := I.base.slot b o e n hb hx
      exact ⟨sl, (hs.2 b (Nat.ne_of_lt (Nat.lt_of_lt_of_le (Heap.lt_size e) I.ok.above))).trans e1⟩
    · obtain ⟨o', e1⟩ := I.base.there b o e hx
      exact ⟨o', (hs.2 b (Nat.ne_of_lt (Nat.lt_of_lt_of_le (Heap.lt_size e) I.ok.above))).trans e1⟩
    · by_cases hj : j = i
      · subst hj
        rw [hi] at e1; cases e1
        rw [List.getElem?_set_self hiσ] at e2
        cases e2
        exact ⟨u, r, .inl ⟨hk, by simp⟩⟩
      · rw [List.getElem?_set_ne (Ne.symm hj)] at e2
        obtain ⟨u', r', q⟩ := hl j y v' e1 e2 e3
        refine ⟨u', r', ?_⟩
        rcases q with ⟨k, e⟩ | ⟨k, c, e, z⟩
        · refine .inl ⟨k, ?_⟩
          have : y ≠ x := fun e => hj (nodup_ix hN e1 (e ▸ hi))
          simp [this, e]
        · exact .inr ⟨k, c, e, z.sameBut hs (cne y c e)⟩
    · obtain ⟨w', z⟩ := I.cell y c e
      exact ⟨w', z.sameBut hs (cne y c e)⟩
    · obtain ⟨e, n, ne, nf, d⟩ := I.pin p hp
      exact ⟨(hs.2 p.1 ne).trans e, n, ne, nf, d⟩
  · have hfn : X.fn x = true := by
      rcases hf with z | z
      · exact z
      · rw [z] at hk; cases hk
    obtain ⟨c, hc⟩ := I.ok.has x (.inl hk)
    obtain ⟨w', z⟩ := I.cell x c hc
    refine wpAny_storeName_cell I.ok.kind hk hc z (fun h' hc' hs => ?_)
    obtain ⟨oc, hoc, hocd⟩ := id z
    refine h { s with heap := h' } ⟨I.ok, I.os, I.bare, ⟨fun b o e n hb hx => ?_, fun b o e n hb hx => ?_, I.base.free, fun b o e hx => ?_, I.base.tups, I.base.frzs, I.base.tbls⟩, ⟨m, hn.sameBut hs (Ne.symm (cne x c hc)), fun j y v' e1 e2 e3 => ?_⟩, fun y c' e => ?_, I.free, I.freeC, fun p hp => ?_, tracked ⟨oc, hoc, I.freeC x c hc⟩ hs, by simpa using I.len⟩ ⟨c, hs, .inr hc⟩
    · exact (hs.2 b (Nat.ne_of_lt (Nat.lt_of_lt_of_le (Heap.lt_size e) (I.ok.cab x c hfn hc)))).trans (I.base.keep b o e n hb hx)
    · obtain ⟨sl, e1⟩ := I.base.slot b o e n hb hx
      exact ⟨sl, (hs.2 b (Nat.ne_of_lt (Nat.lt_of_lt_of_le (Heap.lt_size e) (I.ok.cab x c hfn hc)))).trans e1⟩
    · obtain ⟨o', e1⟩ := I.base.there b o e hx
      exact ⟨o', (hs.2 b (Nat.ne_of_lt (Nat.lt_of_lt_of_le (Heap.lt_size e) (I.ok.cab x c hfn hc)))).trans e1⟩
    · by_cases hj : j = i
      · subst hj
        rw [hi] at e1; cases e1
        rw [List.getElem?_set_self hiσ] at e2
        cases e2
        exact ⟨u, r, .inr ⟨.inl hk, c, hc, hc'⟩⟩
      · rw [List.getElem?_set_ne (Ne.symm hj)] at e2
        obtain ⟨u', r', q⟩ := hl j y v' e1 e2 e3
        refine ⟨u', r', ?_⟩
        rcases q with q | ⟨k, c', e, z'⟩
        · exact .inl q
        · refine .inr ⟨k, c', e, z'.sameBut hs ?_⟩
          rintro rfl
          exact hj (nodup_ix hN e1 (I.ok.inj _ _ _ e hc ▸ hi))
    · by_cases hcc : c' = c
      · subst hcc; exact ⟨_, hc'⟩
      · obtain ⟨w2, z2⟩ := I.cell y c' e
        exact ⟨w2, z2.sameBut hs hcc⟩
    · obtain ⟨e, n, ne, nf, d⟩ := I.pin p hp
      refine ⟨(hs.2 p.1 ?_).trans e, n, ne, nf, d⟩
      intro q
      rw [q, hoc] at e
      have q' : oc = p.2 := Option.some.inj e
      exact d w' (by rw [← q']; exact hocd)
theorem store_ok {M : Model} {A : Around} {E : Value → Shared → Prop} {i : Nat} {x : Str} {v : V} {u : Value} {Q : Unit → Shared → Prop} (I : Inv X pins σ H s) (hN : X.N.Nodup) (hi : X.N[i]? = some x) (hx : Loc X.env.scope x) (r : RelV v u)
    (h : ∀ s', Inv X pins (σ.set i (some v)) H s' → Q () s') (hf : X.fn x = true ∨ X.env.scope.names.lookup x = some .local := by first | exact .inl rfl | exact .inr rfl | assumption) : wpAny M A (storeName X.env x u) Q E s :=
  store_ok2 I hN hi hx r (fun s' I' _ => h s' I') hf
theorem Inv.call' {s' : Shared} {ch : List Addr} (I : Inv X pins σ H s) (ho : s'.os = s.os) (u : Un (frs X.stack) ch H H' s.heap s'.heap) (hok : HOk X.prog X.w H' s'.heap) (hg : AllBare s'.gens)
    (hch : ∀ b ∈ ch, (b ∈ X.ex ∨ X.s₀.heap.objs.size ≤ b) ∧ b ≠ X.env.locals ∧ (∀ x c, X.env.cells.lookup x = some c → c ≠ b) ∧ ∀ p ∈ X.pn ++ pins, p.1 ≠ b) : Inv X pins σ H' s' := by
  obtain ⟨h', g', d', t', o'⟩ := s'
  have e : o' = s.os := ho
  subst e
  exact I.call (g' := g') (t' := t') (d' := d') u hok hg hch
end

abbrev XK := Value → Option Addr → Hp → Prop
abbrev St := List (Option V)
abbrev VK := V → Hp → Prop
abbrev TE := St → Hp → VK → Prop
abbrev TT := St → Hp → (Bool → Hp → Prop) → Prop
abbrev TA := St → Hp → (List V → Hp → Prop) → Prop
structure Ends where
  nx : St → Hp → Prop
  rt : VK
  bk : St → Hp → Prop := fun _ _ => False
  ct : St → Hp → Prop := fun _ _ => False
abbrev TS := Ends → St → Hp → Prop

def EP (X : Cx) (pins : List (Addr × Obj)) (σ : St) (Q : VK) (u : Value) (s' : Shared) : Prop := ∃ v H', Inv X pins σ H' s' ∧ RelV v u ∧ Q v H'
def TP (X : Cx) (pins : List (Addr × Obj)) (σ : St) (Q : Bool → Hp → Prop) (b : Bool) (s' : Shared) : Prop := ∃ H', Inv X pins σ H' s' ∧ Q b H'
def AP (X : Cx) (pins : List (Addr × Obj)) (σ : St) (Q : List V → Hp → Prop) (us : List Value) (s' : Shared) : Prop := ∃ vs H', Inv X pins σ H' s' ∧ Vals vs us ∧ Q vs H'
def SP (X : Cx) (pins : List (Addr × Obj)) (D : Ends) (f : Flow) (s' : Shared) : Prop :=
  match f with
  | .next => ∃ σ' H', Inv X pins σ' H' s' ∧ D.nx σ' H'
  | .brk => ∃ σ' H', Inv X pins σ' H' s' ∧ D.bk σ' H'
  | .cont => ∃ σ' H', Inv X pins σ' H' s' ∧ D.ct σ' H'
  | .ret u => ∃ v σ' H', Inv X pins σ' H' s' ∧ RelV v u ∧ D.rt v H'

def PE (X : Cx) (e : Expr) (t : TE) : Prop :=
  ∀ (pins : List (Addr × Obj)) (s : Shared) (σ : St) (H : Hp) (Q : VK), Inv X pins σ H s → t σ H Q → wpAny (model X.prog X.w) X.A (eval e X.env) (EP X pins σ Q) X.xe s
def PT (X : Cx) (e : Expr) (t : TT) : Prop :=
  ∀ (pins : List (Addr × Obj)) (s : Shared) (σ : St) (H : Hp) (Q : Bool → Hp → Prop), Inv X pins σ H s → t σ H Q → wpAny (model X.prog X.w) X.A (isTrue e X.env (eval e X.env)) (TP X pins σ Q) X.xe s
def PW (X : Cx) (e : Expr) (t : TT) : Prop :=
  ∀ (whole : Sem Value) (pins : List (Addr × Obj)) (s : Shared) (σ : St) (H : Hp) (Q : Bool → Hp → Prop), Inv X pins σ H s → t σ H Q → wpAny (model X.prog X.w) X.A (isTrue e X.env whole) (TP X pins σ Q) X.xe s
theorem PW.pt {X : Cx} {e : Expr} {t : TT} (h : PW X e t) : PT X e t := h _
def PA (X : Cx) (es : List Expr) (t : TA) : Prop :=
  ∀ (pos : Pos) (pins : List (Addr × Obj)) (s : Shared) (σ : St) (H : Hp) (Q : List V → Hp → Prop), Inv X pins σ H s → t σ H Q → wpAny (model X.prog X.w) X.A (spliced (backTo pos (starEach es X.env))) (AP X pins σ Q) X.xe s
def PS (X : Cx) (st : Stmt) (t : TS) : Prop :=
  ∀ (pins : List (Addr × Obj)) (s : Shared) (σ : St) (H : Hp) (D : Ends), Inv X pins σ H s → t D σ H → wpAny (model X.prog X.w) X.A (exec st X.env) (SP X pins D) X.xe s
def PSs (X : Cx) (st : List Stmt) (t : TS) : Prop :=
  ∀ (pins : List (Addr × Obj)) (s : Shared) (σ : St) (H : Hp) (D : Ends), Inv X pins σ H s → t D σ H → wpAny (model X.prog X.w) X.A (execs st X.env) (SP X pins D) X.xe s
theorem thn {α : Type} {t : Sem α} {Q Q' : α → Shared → Prop} {M : Model} {A : Around} {E : Value → Shared → Prop} {s : Shared} (h : wpAny M A t Q E s) (hQ : ∀ a s, Q a s → Q' a s) : wpAny M A t Q' E s := wpAny_mono h hQ fun _ _ x => x
end L2

namespace L2
open PySem PySem.Spec PyProof.Rows
section
variable {X : Cx}

def tVar (i : Nat) : TE := fun σ H Q => ∃ v, σ[i]? = some (some v) ∧ Q v H
def tC (v : V) : TE := fun _ H Q => Q v H
theorem pe_var {i : Nat} {x : Str} {pos : Pos} (hN : X.N[i]? = some x) (hv : Vis X.env.scope x) (hd : (x == ("__debug__" : Str)) = false := by decide) (hcd : (x == ("__classdict__" : Str)) = false := by decide) : PE X (.Name x pos) (tVar i) := by
  intro pins s σ H Q I h
  obtain ⟨v, e, h⟩ := h
  obtain ⟨m, hn, hl⟩ := I.loc
  obtain ⟨u, r, l⟩ := hl i x v hN e hv
  have fin : EP X pins σ Q u s := ⟨v, H, I, r, h⟩
  rcases l with ⟨hk, hm⟩ | ⟨hk, c, hc, hcell⟩
  · exact wpAny_Name (wpAny_loadName_local I.ok.kind hk hn hm fin) hd
  · rcases hk with hk | hk
    · exact wpAny_Name (wpAny_loadName_cell I.ok.kind hk hc hcell fin) hd
    · exact wpAny_Name (wpAny_loadName_free I.ok.kind hk hc hcell fin hcd) hd
theorem pe_int {i j pos} : PE X (.Constant (.int i) j pos) (tC (.int i)) := fun _ _ _ H _ I h => wpAny_Constant_int ⟨.int i, H, I.tok _, ⟨_, rfl⟩, h⟩
theorem pe_bl {b j pos} : PE X (.Constant (.bool b) j pos) (tC (.bl b)) := fun _ _ _ H _ I h => Constant_bool ⟨.bl b, H, I, rfl, h⟩
theorem pe_non {j pos} : PE X (.Constant .none j pos) (tC .non) := fun _ _ _ H _ I h => Constant_none ⟨.non, H, I, rfl, h⟩
theorem pe_str {x j pos} : PE X (.Constant (.str x) j pos) (tC (.str x)) := fun _ _ _ H _ I h => Calls.Constant_str ⟨.str x, H, I.tok _, ⟨_, rfl⟩, h⟩

def Gl (X : Cx) (x : Str) : Prop := X.env.kindOf x = some .globalImplicit
theorem ld_glob {E : Value → Shared → Prop} {pins : List (Addr × Obj)} {s : Shared} {σ : St} {H : Hp} {x : Str} {u : Value} {pos : Pos} {Q : Value → Shared → Prop} (I : Inv X pins σ H s) (hg : Gl X x) (hm : X.mg x = some u) (h : Q u s)
    (hd : (x == ("__debug__" : Str)) = false := by decide) : wpAny (model X.prog X.w) X.A (eval (.Name x pos) X.env) Q E s :=
  Calls.Name_function_global I.ok.kind hg (Calls.loadGlobal_global (by rw [I.ok.glob]; exact I.mod.glob.keeps I.bk) hm h) hd
theorem ld_blt {E : Value → Shared → Prop} {pins : List (Addr × Obj)} {s : Shared} {σ : St} {H : Hp} {x : Str} {u : Value} {pos : Pos} {Q : Value → Shared → Prop} (I : Inv X pins σ H s) (hg : Gl X x) (hm : X.mg x = none) (hv : bootBuiltins x = some u) (h : Q u s)
    (hn : x ≠ "__name__" := by decide) (hd : (x == ("__debug__" : Str)) = false := by decide) : wpAny (model X.prog X.w) X.A (eval (.Name x pos) X.env) Q E s := by
  obtain ⟨mb, h1, h2⟩ := I.mod.blt
  exact Calls.Name_function_global I.ok.kind hg (Calls.loadGlobal_builtin (by rw [I.ok.glob]; exact I.mod.glob.keeps I.bk) hm (by rw [I.ok.blt]; exact h1.keeps I.bk) ((h2 x hn).trans hv) h) hd
theorem pe_glob {x : Str} {v : V} {u : Value} {pos : Pos} (hg : Gl X x) (hm : X.mg x = some u) (r : RelV v u) (hd : (x == ("__debug__" : Str)) = false := by decide) : PE X (.Name x pos) (tC v) :=
  fun _ _ _ H _ I h => ld_glob I hg hm ⟨v, H, I, r, h⟩ hd
theorem pe_bltn {x : Str} {v : V} {u : Value} {pos : Pos} (hg : Gl X x) (hm : X.mg x = none) (hv : bootBuiltins x = some u) (r : RelV v u) (hn : x ≠ "__name__" := by decide) (hd : (x == ("__debug__" : Str)) = false := by decide) : PE X (.Name x pos) (tC v) :=
  fun _ _ _ H _ I h => ld_blt I hg hm hv ⟨v, H, I, r, h⟩ hn hd

def t2I (ta tb : TE) (k : Int → Int → Hp → Prop) : St → Hp → Prop := fun σ H => ta σ H fun x H1 => tb σ H1 fun y H2 => ∃ i j, x = .int i ∧ y = .int j ∧ k i j H2
def tAdd (ta tb : TE) : TE := fun σ H Q => t2I ta tb (fun i j H2 => Q (.int (i + j)) H2) σ H
def tSub (ta tb : TE) : TE := fun σ H Q => t2I ta tb (fun i j H2 => Q (.int (i - j)) H2) σ H
def tMul (ta tb : TE) : TE := fun σ H Q => t2I ta tb (fun i j H2 => (-(2 ^ 64) < i ∧ i < 2 ^ 64) ∧ Q (.int (i * j)) H2) σ H
variable {a b : Expr} {ta tb : TE} {pos : Pos}
def PC (X : Cx) (op : CmpOp) (a b : Expr) (t : TE) : Prop :=
  ∀ (pins : List (Addr × Obj)) (s : Shared) (σ : St) (H : Hp) (Q : VK), Inv X pins σ H s → t σ H Q →
    wpAny (model X.prog X.w) X.A (eval a X.env) (fun v s₁ => wpAny (model X.prog X.w) X.A (eval b X.env) (fun u s₂ => wpAny (model X.prog X.w) X.A (compareOp op v u) (EP X pins σ Q) X.xe s₂) X.xe s₁) X.xe s
def tCmp (p : Int → Int → Bool) (ta tb : TE) : TE := fun σ H Q => t2I ta tb (fun i j H2 => Q (.bl (p i j)) H2) σ H
abbrev tLt : TE → TE → TE := tCmp fun i j => decide (i < j)
abbrev tLe : TE → TE → TE := tCmp fun i j => decide (i ≤ j)
abbrev tGt : TE → TE → TE := tCmp fun i j => decide (j < i)
abbrev tGe : TE → TE → TE := tCmp fun i j => decide (j ≤ i)
abbrev tEqI : TE → TE → TE := tCmp fun i j => decide (i = j)
abbrev tNeI : TE → TE → TE := tCmp fun i j => !decide (i = j)
def tIsN (ta : TE) : TE := fun σ H Q => ta σ H fun x H1 => Q (.bl (decide (x = .non))) H1
def tNotN (ta : TE) : TE := fun σ H Q => ta σ H fun x H1 => Q (.bl (!decide (x = .non))) H1
def tB (t : TE) : TT := fun σ H Q => t σ H fun x H1 => ∃ c, x = .bl c ∧ Q c H1
theorem pt_cmp {op : CmpOp} {t : TE} (h : PC X op a b t) (h1 : behindInMarks op b = false := by first | exact nobehind _ (by decide) (by decide) | rfl) : PT X (.Compare a [op] [b] pos) (tB t) := by
  intro pins s σ H Q I hw
  refine wpAny_isTrue_Compare1 (thn (h pins s σ H _ I hw) fun v s1 h1 => thn h1 fun u s2 h2 => thn h2 fun c s3 ⟨x, H1, I1, r1, q1⟩ => ?_) h1
  obtain ⟨d, rfl, q⟩ := q1
  cases r1
  exact wpAny_truthy_bool ⟨H1, I1, q⟩
theorem pt_val {e : Expr} {t : TE} (h : PE X e t) (he : ∀ whole, isTrue e X.env whole = (do let v ← whole; standAt e.pos; holding [v] (truthy v)) := by intro _; rfl) : PT X e (tB t) := by
  intro pins s σ H Q I hw
  refine isTrue_plain (thn (h pins s σ H _ I hw) fun v s1 ⟨x, H1, I1, r1, q1⟩ => ?_) (he _)
  obtain ⟨d, rfl, q⟩ := q1
  cases r1
  exact wpAny_truthy_bool ⟨H1, I1, q⟩

variable {tA tB' : TT} {rest : List Expr}
def tAnd (t u : TT) : TT := fun σ H Q => t σ H fun c H1 => if c = true then u σ H1 Q else Q false H1
def tOr (t u : TT) : TT := fun σ H Q => t σ H fun c H1 => if c = true then Q true H1 else u σ H1 Q
def tNot (t : TT) : TT := fun σ H Q => t σ H fun c H1 => Q (!c) H1
theorem pw_and1 (ha : PT X a tA) : PW X (.BoolOp .And [a] pos) tA := by
  intro wh pins s σ H Q I h
  refine isTrue_and (thn (ha pins s σ H Q I h) fun c s1 e => ?_)
  cases c with
  | true => exact isTrue_and_nil e
  | false => exact e
theorem pw_or1 (ha : PT X a tA) : PW X (.BoolOp .Or [a] pos) tA := by
  intro wh pins s σ H Q I h
  refine isTrue_or (thn (ha pins s σ H Q I h) fun c s1 e => ?_)
  cases c with
  | false => exact isTrue_or_nil e
  | true => exact e
theorem pw_and (ha : PT X a tA) (hb : PW X (.BoolOp .And (b :: rest) pos) tB') : PW X (.BoolOp .And (a :: b :: rest) pos) (tAnd tA tB') := by
  intro wh pins s σ H Q I h
  refine isTrue_and (thn (ha pins s σ H _ I h) fun c s1 ⟨H1, I1, q1⟩ => ?_)
  cases c with
  | true => exact hb wh pins s1 σ H1 Q I1 q1
  | false => exact ⟨H1, I1, q1⟩
theorem pw_or (ha : PT X a tA) (hb : PW X (.BoolOp .Or (b :: rest) pos) tB') : PW X (.BoolOp .Or (a :: b :: rest) pos) (tOr tA tB') := by
  intro wh pins s σ H Q I h
  refine isTrue_or (thn (ha pins s σ H _ I h) fun c s1 ⟨H1, I1, q1⟩ => ?_)
  cases c with
  | true => exact ⟨H1, I1, q1⟩
  | false => exact hb wh pins s1 σ H1 Q I1 q1
theorem pt_not (ha : PT X a tA) : PT X (.UnaryOp .Not a pos) (tNot tA) := by
  intro pins s σ H Q I h
  exact isTrue_not (ha pins s σ H (fun c H1 => Q (!c) H1) I h)
def tAndV (ta tb : TE) : TE := fun σ H Q => ta σ H fun x H1 => ∃ c, x = .bl c ∧ if c = true then tb σ H1 Q else Q (.bl false) H1
def tOrV (ta tb : TE) : TE := fun σ H Q => ta σ H fun x H1 => ∃ c, x = .bl c ∧ if c = true then Q (.bl true) H1 else tb σ H1 Q
def tNotV (ta : TE) : TE := fun σ H Q => ta σ H fun x H1 => ∃ c, x = .bl c ∧ Q (.bl (!c)) H1
theorem pe_one {op} {t : TE} (h : PE X a t) : PE X (.BoolOp op [a] pos) t := fun pins s σ H Q I hw => BoolOp_one (h pins s σ H Q I hw)
theorem pe_and (ha : PE X a ta) (hb : PE X (.BoolOp .And (b :: rest) pos) tb) : PE X (.BoolOp .And (a :: b :: rest) pos) (tAndV ta tb) := by
  intro pins s σ H Q I h
  refine BoolOp_and (thn (ha pins s σ H _ I h) fun v s1 hq7 => ?_)
  obtain ⟨x, H1, I1, r1, q1⟩ := hq7
  obtain ⟨c, rfl, q1⟩ := q1
  cases r1
  refine wpAny_truthy_bool ?_
  cases c with
  | true => exact hb pins s1 σ H1 Q I1 q1
  | false => exact ⟨.bl false, H1, I1, rfl, q1⟩
theorem pe_not (ha : PE X a ta) : PE X (.UnaryOp .Not a pos) (tNotV ta) := by
  intro pins s σ H Q I h
  refine UnaryOp_ (thn (ha pins s σ H _ I h) fun v s1 hq9 => ?_)
  obtain ⟨x, H1, I1, r1, q1⟩ := hq9
  obtain ⟨c, rfl, q1⟩ := q1
  cases r1
  exact not_of (wpAny_truthy_bool ⟨.bl (!c), H1, I1, rfl, q1⟩)
def tIf (t : TT) (ta tb : TE) : TE := fun σ H Q => t σ H fun c H1 => if c = true then ta σ H1 Q else tb σ H1 Q
end
end L2

namespace L2
open PySem PySem.Spec PyProof.Rows

def SqL (K : PySem.W.Frag) (H : Hp) (a : Addr) (xs : List V) : Prop :=
  Rd H a (.lst xs) ∨
    ∃ (o : Obj) (its : Array Value) (n : Nat), K.lookup a = some o ∧ o.cls = .type "list" ∧ o.dict = none ∧ o.data = .seq its n ∧ its.size ≤ sizeLine ∧ Vals xs its.toList
def SqT (K : PySem.W.Frag) (H : Hp) (a : Addr) (xs : List V) : Prop :=
  Rd H a (.tup xs) ∨
    ∃ (o : Obj) (its : Array Value) (n : Nat), K.lookup a = some o ∧ o.cls = .type "tuple" ∧ o.data = .seq its n ∧ its.size ≤ sizeLine ∧ Vals xs its.toList
def absV : Value → Option V
  | .none => some .non
  | .bool b => some (.bl b)
  | .int i _ => some (.int i)
  | .str x _ => some (.str x)
  | .bytes b _ => some (.byt b)
  | .float b _ => some (.flt b)
  | .ref a => some (.ref a)
  | .type n => some (.ty n)
  | _ => none
theorem RelV.abs {x : V} {u : Value} (r : RelV x u) : absV u = some x := by
  cases x with
  | non => cases r; rfl
  | bl _ => cases r; rfl
  | int _ => obtain ⟨t, rfl⟩ := r; rfl
  | str _ => obtain ⟨t, rfl⟩ := r; rfl
  | byt _ => obtain ⟨t, rfl⟩ := r; rfl
  | flt _ => obtain ⟨t, rfl⟩ := r; rfl
  | ref _ => cases r; rfl
  | ty _ => cases r; rfl
theorem RelV.inj {x y : V} {u : Value} (r : RelV x u) (q : RelV y u) : x = y := Option.some.inj (r.abs.symm.trans q.abs)
theorem Vals.inj : ∀ {xs ys : List V} {us : List Value}, Vals xs us → Vals ys us → xs = ys
  | _, _, _, .nil, .nil => rfl
  | _, _, _, .cons r t, .cons r' t' => by rw [r.inj r', Vals.inj t t']
section
variable {X : Cx} {pins : List (Addr × Obj)} {σ : St} {H : Hp} {s : Shared} {a : Addr} {xs ys : List V}
theorem Inv.list (I : Inv X pins σ H s) (h : SqL X.K H a xs) : ∃ its : List Value, Vals xs its ∧ PlainL s.heap a its.toArray ∧ xs.length ≤ sizeLine := by
  rcases h with h | ⟨o, its, n, hk, hc, hd, hs, hz, r⟩
  · obtain ⟨z, its, n, r, e⟩ := h.ok I.hok
    exact ⟨its, r, ⟨_, n, e, rfl, rfl, rfl⟩, z⟩
  · refine ⟨its.toList, r, ⟨o, n, I.kIn a o hk, hc, hd, by simpa using hs⟩, ?_⟩
    have e := r.length
    simp only [Array.length_toList] at e
    omega
theorem Inv.tuple (I : Inv X pins σ H s) (h : SqT X.K H a xs) : ∃ its : List Value, Vals xs its ∧ IsTup s.heap a its.toArray ∧ xs.length ≤ sizeLine := by
  rcases h with h | ⟨o, its, n, hk, hc, hs, hz, r⟩
  · obtain ⟨z, its, r, p⟩ := h.ok I.hok
    exact ⟨its, r, p, z⟩
  · refine ⟨its.toList, r, ⟨o, I.kIn a o hk, hc, n, by simpa using hs⟩, ?_⟩
    have e := r.length
    simp only [Array.length_toList] at e
    omega
theorem Inv.list_inj (I : Inv X pins σ H s) (h : SqL X.K H a xs) (h' : SqL X.K H a ys) : xs = ys := by
  obtain ⟨its, r, ⟨o, n, e, _, _, d⟩, _⟩ := I.list h
  obtain ⟨its', r', ⟨o', n', e', _, _, d'⟩, _⟩ := I.list h'
  rw [e] at e'; cases e'
  rw [d] at d'
  injection d' with d1 _
  have : its = its' := by simpa using congrArg Array.toList d1
  subst this
  exact r.inj r'
theorem Inv.tuple_inj (I : Inv X pins σ H s) (h : SqT X.K H a xs) (h' : SqT X.K H a ys) : xs = ys := by
  obtain ⟨its, r, ⟨o, e, _, n, d⟩, _⟩ := I.tuple h
  obtain ⟨its', r', ⟨o', e', _, n', d'⟩, _⟩ := I.tuple h'
  rw [e] at e'; cases e'
  rw [d] at d'
  injection d' with d1 _
  have : its = its' := by simpa using congrArg Array.toList d1
  subst this
  exact r.inj r'
end

abbrev Cx.wish (X : Cx) (E : Value → Shared → Prop) : Cx := { X with xe := E }
abbrev Cx.nox (X : Cx) : Cx := X.wish fun _ _ => False
section
variable {X : Cx} {pins : List (Addr × Obj)} {σ : St} {H : Hp} {s : Shared} {E : Value → Shared → Prop}
end

section
variable {X : Cx} {st : Stmt} {rest : List Stmt} {t u : TS} {e : Expr} {te : TE} {pos : Pos}
def tNext : TS := fun D σ H => D.nx σ H
def tSeq (t u : TS) : TS := fun D σ H => t { D with nx := u D } σ H
theorem pss_nil : PSs X [] tNext := fun _ _ σ H _ I h => wpAny_execs_nil ⟨σ, H, I, h⟩
theorem pss_cons (h1 : PS X st t) (h2 : PSs X rest u) : PSs X (st :: rest) (tSeq t u) := by
  intro pins s σ H D I h
  refine wpAny_execs_cons (thn (h1 pins s σ H { D with nx := u D } I h) fun f s1 q => ?_)
  cases f with
  | next =>
    obtain ⟨σ', H', I', q⟩ := q
    exact h2 pins s1 σ' H' D I' q
  | ret v => exact q
  | brk => exact q
  | cont => exact q
theorem pss_one (h1 : PS X st t) : PSs X [st] t := by
  intro pins s σ H D I h
  refine wpAny_execs_cons (thn (h1 pins s σ H D I h) fun f s1 q => ?_)
  cases f with
  | next => exact wpAny_execs_nil q
  | ret v => exact q
  | brk => exact q
  | cont => exact q
def tBreak : TS := fun D σ H => D.bk σ H
def tCont : TS := fun D σ H => D.ct σ H
theorem Inv.quiet {pins : List (Addr × Obj)} {σ : St} {H : Hp} {s : Shared} (I : Inv X pins σ H s) : interactive X.env = false := by simp [interactive, I.ok.kind]
def tDrop (te : TE) : TS := fun D σ H => te σ H fun _ H1 => D.nx σ H1
theorem ps_expr (he : PE X e te) (hs : swapsWith e none pos.line X.env = pure false := by rfl) : PS X (.Expr e pos) (tDrop te) := by
  intro pins s σ H D I h
  exact wpAny_Expr_any (thn (he pins s σ H _ I h) fun v s1 hq11 => by obtain ⟨x, H1, I1, r1, q1⟩ := hq11; exact ⟨σ, H1, I1, q1⟩) I.quiet hs
def tRet (te : TE) : TS := fun D σ H => te σ H D.rt
theorem ps_ret (he : PE X e te) : PS X (.Return (some e) pos) (tRet te) := by
  intro pins s σ H D I h
  exact wpAny_Return_some (thn (he pins s σ H _ I h) fun v s1 hq12 => by obtain ⟨x, H1, I1, r1, q1⟩ := hq12; exact ⟨x, σ, H1, I1, r1, q1⟩)
def tRetN : TS := fun D _ H => D.rt .non H
def tIfS (c : TT) (t u : TS) : TS := fun D σ H => c σ H fun b H1 => if b = true then t D σ H1 else u D σ H1
theorem ps_if {c : Expr} {a b : List Stmt} {tc : TT} (hc : PT X c tc) (ha : PSs X a t) (hb : PSs X b u) : PS X (.If c a b pos) (tIfS tc t u) := by
  intro pins s σ H D I h
  refine wpAny_If (thn (hc pins s σ H _ I h) fun d s1 ⟨H1, I1, q1⟩ => ?_)
  cases d with
  | true => exact ha pins s1 σ H1 D I1 q1
  | false => exact hb pins s1 σ H1 D I1 q1
def tNever : TS := fun _ _ _ => False
end

abbrev TG := V → St → Hp → (St → Hp → Prop) → Prop
abbrev TGs := List V → St → Hp → (St → Hp → Prop) → Prop
def PG (X : Cx) (target : Expr) (t : TG) : Prop :=
  ∀ (pins : List (Addr × Obj)) (s : Shared) (σ : St) (H : Hp) (v : V) (u : Value) (Q : St → Hp → Prop), Inv X pins σ H s → RelV v u → t v σ H Q →
    wpAny (model X.prog X.w) X.A (assign target X.env u) (fun _ s' => ∃ σ' H', Inv X pins σ' H' s' ∧ Q σ' H') X.xe s
def PGs (X : Cx) (ts : List Expr) (t : TGs) : Prop :=
  ∀ (pins : List (Addr × Obj)) (s : Shared) (σ : St) (H : Hp) (vs : List V) (us : List Value) (Q : St → Hp → Prop), Inv X pins σ H s → Vals vs us → t vs σ H Q →
    wpAny (model X.prog X.w) X.A (assignInOrder ((assignEach ts X.env).map (·.2)) us) (fun _ s' => ∃ σ' H', Inv X pins σ' H' s' ∧ Q σ' H') X.xe s
abbrev TSet := V → V → V → Hp → (Hp → Prop) → Prop
def PSet (X : Cx) (t : TSet) : Prop :=
  ∀ (pins : List (Addr × Obj)) (s : Shared) (σ : St) (H : Hp) (o i v : V) (ov iv u : Value) (Q : Hp → Prop), Inv X pins σ H s → RelV o ov → RelV i iv → RelV v u → t o i v H Q →
    wpAny (model X.prog X.w) X.A (setItem ov iv u) (fun _ s' => ∃ H', Inv X pins σ H' s' ∧ Q H') X.xe s
abbrev TIp := V → V → Hp → VK → Prop
def PIp (X : Cx) (op : Operator) (t : TIp) : Prop :=
  ∀ (pins : List (Addr × Obj)) (s : Shared) (σ : St) (H : Hp) (x y : V) (v u : Value) (Q : VK), Inv X pins σ H s → RelV x v → RelV y u → t x y H Q →
    wpAny (model X.prog X.w) X.A (inplaceOp op v u) (EP X pins σ Q) X.xe s
section
variable {X : Cx} {pos : Pos}
def gName (i : Nat) : TG := fun v σ H Q => Q (σ.set i (some v)) H
theorem pg_name {i : Nat} {x : Str} (hN : X.N.Nodup) (hi : X.N[i]? = some x) (hx : Loc X.env.scope x) (hf : X.fn x = true ∨ X.env.scope.names.lookup x = some .local := by first | exact .inl rfl | exact .inr rfl | assumption) : PG X (.Name x pos) (gName i) := by
  intro pins s σ H v u Q I r h
  exact wpAny_assign_Name (store_ok I hN hi hx r (fun s' I' => ⟨_, H, I', h⟩) hf)
def gNil : TGs := fun vs σ H Q => vs = [] ∧ Q σ H
def gCons (t : TG) (u : TGs) : TGs := fun vs σ H Q => ∃ v r, vs = v :: r ∧ t v σ H fun σ' H' => u r σ' H' Q
theorem pgs_nil : PGs X [] gNil := by
  intro pins s σ H vs us Q I r h
  obtain ⟨e, h⟩ := h
  subst e
  cases r
  exact assignInOrder_nil ⟨σ, H, I, h⟩
theorem pgs_cons {e : Expr} {es : List Expr} {t : TG} {u : TGs} (h1 : PG X e t) (h2 : PGs X es u)
    (hs : (assignEach (e :: es) X.env).map (·.2) = assign e X.env :: (assignEach es X.env).map (·.2) := by rfl) : PGs X (e :: es) (gCons t u) := by
  intro pins s σ H vs us Q I r h
  obtain ⟨v, vr, e1, h⟩ := h
  subst e1
  cases r with
  | cons r rr =>
    rw [hs]
    refine assignInOrder_cons (thn (h1 pins s σ H _ _ _ I r h) fun _ s1 ⟨σ1, H1, I1, q1⟩ => ?_)
    exact h2 pins s1 σ1 H1 _ _ Q I1 rr q1
def gTup (K : PySem.W.Frag) (n : Nat) (t : TGs) : TG := fun v σ H Q => ∃ a xs, v = .ref a ∧ SqT K H a xs ∧ xs.length = n ∧ t xs σ H Q
theorem pg_tup {es : List Expr} {k : Nat} {t : TGs} {n : Nat} (hc : X.calm = true) (h : PGs X es t)
    (hn : (assignEach es X.env).length = n := by rfl) (hst : (assignEach es X.env).findIdx? (·.1) = none := by rfl) : PG X (.Tuple es k pos) (gTup X.K n t) := by
  intro pins s σ H v u Q I r hw
  obtain ⟨a, xs, e1, hq, hl, hw⟩ := hw
  subst e1
  cases r
  obtain ⟨its, rv, ht, hz⟩ := I.tuple hq
  refine assign_Tuple_tuple (I.ok.hd hc) ht (by simp [hn, ← hl, rv.length]) hst fun h' hx => ?_
  have I1 : Inv X pins σ H { s with heap := h' } := I.kept (t' := s.toks) fun b o e => hx b o (Nat.ne_of_lt (Heap.lt_size e)) e
  exact h pins _ σ H xs _ Q I1 (by simpa using rv) hw
def gSub (to ti : TE) (t : TSet) : TG := fun v σ H Q => to σ H fun o H1 => ti σ H1 fun i H2 => t o i v H2 fun H3 => Q σ H3
def tAsg (te : TE) (g : TG) : TS := fun D σ H => te σ H fun x H1 => g x σ H1 D.nx
theorem ps_asg {tg e : Expr} {te : TE} {g : TG} (he : PE X e te) (hg : PG X tg g) (hs : swapsWithSole [tg] e pos.line X.env = pure false := by rfl) (hw : swappedStores [tg] e X.env = pure none := by rfl)
    (h1 : (assignEach [tg] X.env).map (·.2) = [assign tg X.env] := by rfl) : PS X (.Assign [tg] e pos) (tAsg te g) := by
  intro pins s σ H D I h
  refine wpAny_Assign_stores (thn (he pins s σ H _ I h) fun v s1 ⟨x, H1, I1, r1, q1⟩ => ?_) hs hw
  rw [h1]
  exact thn (hg pins s1 σ H1 x v _ I1 r1 q1) fun _ s2 q => q
theorem ps_set {i : Nat} {x : Str} {e : Expr} {te : TE} {pos' : Pos} (hN : X.N.Nodup) (hi : X.N[i]? = some x) (hx : Loc X.env.scope x) (he : PE X e te) (hs : swapsWith e (some (.Name x pos')) pos.line X.env = pure false := by rfl) (hf : X.fn x = true ∨ X.env.scope.names.lookup x = some .local := by first | exact .inl rfl | exact .inr rfl | assumption) :
    PS X (.Assign [.Name x pos'] e pos) (tAsg te (gName i)) := by
  intro pins s σ H D I h
  refine wpAny_Assign_Name (thn (he pins s σ H _ I h) fun v s1 ⟨y, H1, I1, r1, q1⟩ => ?_) hs
  exact store_ok I1 hN hi hx r1 (fun s2 I2 => ⟨_, H1, I2, q1⟩) hf
def tPar (i j : Nat) (ta : TA) : TS := fun D σ H => ta σ H fun vs H1 => ∃ v w, vs = [v, w] ∧ D.nx ((σ.set i (some v)).set j (some w)) H1
def tAug (i : Nat) (te : TE) (ti : TIp) : TS := fun D σ H => ∃ x, σ[i]? = some (some x) ∧ te σ H fun y H1 => ti x y H1 fun z H2 => D.nx (σ.set i (some z)) H2
def tAugS (to ti te : TE) (tget : V → V → Hp → VK → Prop) (tip : TIp) (tset : TSet) : TS := fun D σ H => to σ H fun o H1 => ti σ H1 fun i H2 => tget o i H2 fun x H3 => te σ H3 fun y H4 => tip x y H4 fun z H5 => tset o i z H5 fun H6 => D.nx σ H6
def PGet (X : Cx) (t : V → V → Hp → VK → Prop) : Prop :=
  ∀ (pins : List (Addr × Obj)) (s : Shared) (σ : St) (H : Hp) (o i : V) (ov iv : Value) (Q : VK), Inv X pins σ H s → RelV o ov → RelV i iv → t o i H Q →
    wpAny (model X.prog X.w) X.A (getItem ov iv) (EP X pins σ Q) X.xe s
def ipI (f : Int → Int → Int) : TIp := fun x y H Q => ∃ i j, x = .int i ∧ y = .int j ∧ Q (.int (f i j)) H
end

section
variable {X : Cx} {pos : Pos}
def tWhile (c : TT) (tb : TS) : TS := fun D σ H => ∃ W : Nat → St → Hp → Prop, (∃ m, W m σ H) ∧ ∀ m σ H, W m σ H →
  c σ H fun b H1 => if b = true then ∃ N : St → Hp → Prop, (∀ σ' H', N σ' H' → ∃ m', m' < m ∧ W m' σ' H') ∧ tb { D with nx := N, ct := N, bk := D.nx } σ H1 else D.nx σ H1
end

structure It where
  go : Nat → Hp → Prop
  yld : Nat → Hp → V → Hp → Prop
  stop : Nat → Hp → Prop
def FpOk (X : Cx) (pins : List (Addr × Obj)) (H : Hp) (b : Addr) : Prop :=
  H b = none ∧ b ≠ X.env.locals ∧ b ∉ X.fs ∧ (b ∈ X.ex ∨ X.s₀.heap.objs.size ≤ b) ∧ (∀ x c, X.env.cells.lookup x = some c → c ≠ b) ∧ ∀ p ∈ X.pn ++ pins, p.1 ≠ b
theorem Inv.fpOk {X : Cx} {pins : List (Addr × Obj)} {σ : St} {H H' : Hp} {s : Shared} {b : Addr} (I : Inv X pins σ H s) (hb : s.heap.objs.size ≤ b) (hn : H' b = none) : FpOk X pins H' b := by
  refine ⟨hn, Nat.ne_of_gt (Nat.lt_of_lt_of_le I.lt hb), I.nofs hb, .inr (Nat.le_trans I.sz hb), fun x c e z => ?_, fun p hp z => ?_⟩
  · obtain ⟨v, q⟩ := I.cell x c e
    exact absurd (Nat.lt_of_lt_of_le q.lt (by rw [z]; exact hb)) (Nat.lt_irrefl _)
  · exact absurd (Nat.lt_of_lt_of_le (Heap.lt_size (I.pin p hp).1) (by rw [z]; exact hb)) (Nat.lt_irrefl _)
structure Turn (P : Program) (w : World) (K : PySem.W.Frag) (tg : Expr) (J : It) (fp : List Addr) (it : Addr) (tn : Nat → Heap → Prop) : Prop where
  mem : it ∈ fp
  obj : ∀ i h, tn i h → ∀ b ∈ fp, ∃ o, h.get? b = some o ∧ ∀ v, o.data ≠ .cell v
  keep : ∀ i h h', tn i h → (∀ b ∈ fp, ∀ o, h.get? b = some o → h'.get? b = some o) → tn i h'
  item : ∀ (X : Cx), X.prog = P → X.w = w → X.K = K → X.calm = true → ∀ (i : Nat) (pins : List (Addr × Obj)) (s : Shared) (σ : St) (H : Hp) (E : Value → Shared → Prop), Inv X pins σ H s → (∀ b ∈ fp, FpOk X pins H b) → tn i s.heap → J.go i H →
    wpAny (model P w) X.A (pyNext (.ref it)) (fun r s1 => ∃ u, r = some u ∧
      wpAny (model P w) X.A (letOwnedTupleGo tg (.ref it) u) (fun _ s2 => ∃ x H', Inv X pins σ H' s2 ∧ RelV x u ∧ J.yld i H x H' ∧ tn (i + 1) s2.heap ∧ ∀ b ∈ fp, H' b = none) E s1) E s
  done : ∀ (X : Cx), X.prog = P → X.w = w → X.K = K → X.calm = true → ∀ (i : Nat) (pins : List (Addr × Obj)) (s : Shared) (σ : St) (H : Hp) (E : Value → Shared → Prop), Inv X pins σ H s → (∀ b ∈ fp, FpOk X pins H b) → tn i s.heap → J.stop i H →
    wpAny (model P w) X.A (pyNext (.ref it)) (fun r s1 => r = none ∧ Inv X pins σ H s1) E s
  self : ∀ (A : Around) (i : Nat) (s : Shared) (Q : Value → Shared → Prop) (E : Value → Shared → Prop), tn i s.heap → Q (.ref it) s → wpAny (model P w) A (pyIter (.ref it)) Q E s
abbrev TI := St → Hp → (It → Hp → Prop) → Prop
def PIE (X : Cx) (pins : List (Addr × Obj)) (σ : St) (tg : Expr) (R : It → Hp → Prop) (itv : Value) (s2 : Shared) : Prop :=
  ∃ (it : Addr) (fp : List Addr) (tn : Nat → Heap → Prop) (J : It) (H' : Hp), itv = .ref it ∧ Inv X pins σ H' s2 ∧ Turn X.prog X.w X.K tg J fp it tn ∧ tn 0 s2.heap ∧ (∀ b ∈ fp, FpOk X pins H' b) ∧ R J H'
def PI (X : Cx) (tg iter : Expr) (wi : TI) : Prop :=
  ∀ (pins : List (Addr × Obj)) (s : Shared) (σ : St) (H : Hp) (R : It → Hp → Prop), Inv X pins σ H s → wi σ H R →
    wpAny (model X.prog X.w) X.A (eval iter X.env) (fun v s1 => wpAny (model X.prog X.w) X.A (pyIter v) (PIE X pins σ tg R) X.xe s1) X.xe s

theorem go_of {M : Model} {A : Around} {E : Value → Shared → Prop} {s : Shared} {tg : Expr} {it : Addr} {u : Value} {o : Obj} {n : String} {vs : Array Value} {Q : Unit → Shared → Prop} (ho : s.heap.get? it = some o) (hc : o.cls = .type n) (hd : o.data = .fields vs)
    (hn : ["enumerate", "zip", "dict_itemiterator", "dict_reverseitemiterator", "odict_iterator", "itertools.zip_longest", "itertools.pairwise"].contains n = false) (hQ : Q () s) : wpAny M A (letOwnedTupleGo tg (.ref it) u) Q E s := by
  unfold letOwnedTupleGo
  cases tg <;> first
    | exact wpAny_pure hQ
    | (cases u <;> first
        | exact wpAny_pure hQ
        | (refine wpAny_bind (wpAny_load ho ?_)
           rw [hc, hd]
           show wpAny M A (if (["enumerate", "zip", "dict_itemiterator", "dict_reverseitemiterator", "odict_iterator", "itertools.zip_longest", "itertools.pairwise"].contains n && vs[0]? == some (rawInt _)) = true then _ else _) Q E s
           rw [if_neg (by intro h; rw [hn, Bool.false_and] at h; cases h)]
           exact wpAny_pure hQ))

def Itl (K : PySem.W.Frag) (a : Addr) : It :=
  ⟨fun i H => ∃ xs x, SqL K H a xs ∧ xs[i]? = some x, fun i H x H' => H' = H ∧ ∀ xs, SqL K H a xs → xs[i]? = some x, fun i H => ∃ xs, SqL K H a xs ∧ xs.length ≤ i⟩
def Itt (K : PySem.W.Frag) (a : Addr) : It :=
  ⟨fun i H => ∃ xs x, SqT K H a xs ∧ xs[i]? = some x, fun i H x H' => H' = H ∧ ∀ xs, SqT K H a xs → xs[i]? = some x, fun i H => ∃ xs, SqT K H a xs ∧ xs.length ≤ i⟩
def Itr (lo : Int) (n : Nat) : It := ⟨fun i _ => i < n, fun i H x H' => H' = H ∧ x = .int (lo + i), fun i _ => n ≤ i⟩
theorem turn_list {P : Program} {w : World} {K : PySem.W.Frag} {tg : Expr} (a it : Addr) : Turn P w K tg (Itl K a) [it] it (fun i h => h.IsListIter it a i) where
  mem := by simp
  obj := fun i h st b hb => by
    have e : b = it := by simpa using hb
    subst e
    obtain ⟨o, e, c, d⟩ := st
    exact ⟨o, e, fun v z => by rw [d] at z; cases z⟩
  keep := fun i h h' st k => st.at fun o e => k it (by simp) o e
  item := by
    intro X hP hw hK hc i pins s σ H E I hf st hg
    subst hP hw hK
    obtain ⟨xs, x, hq, hx⟩ := hg
    obtain ⟨its, rv, p, hz⟩ := I.list hq
    obtain ⟨u, hu, ru⟩ := rv.get hx
    obtain ⟨f0, f1, f2, f3, f4, f5⟩ := hf it (by simp)
    refine wpAny_pyNext_list_item st p.isList (x := u) (by simpa using hu) fun h' st' sb => ?_
    have I1 : Inv X pins σ H { s with heap := h' } := I.turned (t' := s.toks) (fun b o hb e => (sb.2 b hb).trans e) f0 f1 f3 f4 f5
    obtain ⟨o, e, c, d⟩ := id st'
    exact ⟨u, rfl, go_of (s := { s with heap := h' }) e c d (by decide) ⟨x, H, I1, ru, ⟨rfl, fun ys hy => by rw [I.list_inj hy hq]; exact hx⟩, st', fun b hb => (hf b hb).1⟩⟩
  done := by
    intro X hP hw hK hc i pins s σ H E I hf st hg
    subst hP hw hK
    obtain ⟨xs, hq, hx⟩ := hg
    obtain ⟨its, rv, p, hz⟩ := I.list hq
    obtain ⟨f0, f1, f2, f3, f4, f5⟩ := hf it (by simp)
    have hl := rv.length
    exact wpAny_pyNext_list_end (I.ok.hd hc) st p.isList (by simp; omega) fun h' eb => ⟨rfl, I.turned (t' := s.toks) (fun b o hb e => eb b o hb e) f0 f1 f3 f4 f5⟩
  self := fun _ _ _ _ _ st h => wpAny_pyIter_listiter st h
theorem turn_tuple {P : Program} {w : World} {K : PySem.W.Frag} {tg : Expr} (a it : Addr) : Turn P w K tg (Itt K a) [it] it (fun i h => h.IsTupleIter it a i) where
  mem := by simp
  obj := fun i h st b hb => by
    have e : b = it := by simpa using hb
    subst e
    obtain ⟨o, e, c, d⟩ := st
    exact ⟨o, e, fun v z => by rw [d] at z; cases z⟩
  keep := fun i h h' st k => st.at fun o e => k it (by simp) o e
  item := by
    intro X hP hw hK hc i pins s σ H E I hf st hg
    subst hP hw hK
    obtain ⟨xs, x, hq, hx⟩ := hg
    obtain ⟨its, rv, p, hz⟩ := I.tuple hq
    obtain ⟨u, hu, ru⟩ := rv.get hx
    obtain ⟨f0, f1, f2, f3, f4, f5⟩ := hf it (by simp)
    refine wpAny_pyNext_tuple_item st (show s.heap.IsTuple a its.toArray from p) (x := u) (by simpa using hu) fun h' st' sb => ?_
    have I1 : Inv X pins σ H { s with heap := h' } := I.turned (t' := s.toks) (fun b o hb e => (sb.2 b hb).trans e) f0 f1 f3 f4 f5
    obtain ⟨o, e, c, d⟩ := id st'
    exact ⟨u, rfl, go_of (s := { s with heap := h' }) e c d (by decide) ⟨x, H, I1, ru, ⟨rfl, fun ys hy => by rw [I.tuple_inj hy hq]; exact hx⟩, st', fun b hb => (hf b hb).1⟩⟩
  done := by
    intro X hP hw hK hc i pins s σ H E I hf st hg
    subst hP hw hK
    obtain ⟨xs, hq, hx⟩ := hg
    obtain ⟨its, rv, p, hz⟩ := I.tuple hq
    obtain ⟨f0, f1, f2, f3, f4, f5⟩ := hf it (by simp)
    have hl := rv.length
    exact wpAny_pyNext_tuple_end (I.ok.hd hc) st (show s.heap.IsTuple a its.toArray from p) (by simp; omega) fun h' eb => ⟨rfl, I.turned (t' := s.toks) (fun b o hb e => eb b o hb e) f0 f1 f3 f4 f5⟩
  self := fun _ _ _ _ _ st h => wpAny_pyIter_tupleiter st h
theorem turn_range {P : Program} {w : World} {K : PySem.W.Frag} {tg : Expr} (it : Addr) (lo : Int) (n : Nat) : Turn P w K tg (Itr lo n) [it] it (fun i h => IsRangeIter h it (lo + (i : Nat) * 1) ((n : Int) - (i : Nat)) 1) where
  mem := by simp
  obj := fun i h st b hb => by
    have e : b = it := by simpa using hb
    subst e
    exact ⟨_, st, fun v z => by
      have z' : Data.fields _ = Data.cell v := z
      cases z'⟩
  keep := fun i h h' st k => k it (by simp) _ st
  item := by
    intro X hP hw hK hc i pins s σ H E I hf st hg
    subst hP hw hK
    obtain ⟨f0, f1, f2, f3, f4, f5⟩ := hf it (by simp)
    have W := Walks.range (prog := X.prog) (w := X.w) (I.ok.hd hc) it lo 1 n
    refine W.item i s _ _ hg st fun v h' tk hv st' kk => ?_
    obtain ⟨t, rfl⟩ := hv
    have I1 : Inv X pins σ H { s with heap := h', toks := tk } := I.turned (fun b o hb e => kk b o (by simpa using hb) e) f0 f1 f3 f4 f5
    refine ⟨_, rfl, go_of (s := { s with heap := h', toks := tk }) (n := "range_iterator") st' rfl rfl (by decide) ⟨.int (lo + i), H, I1, ⟨t, ?_⟩, ⟨rfl, rfl⟩, st', fun b hb => (hf b hb).1⟩⟩
    rw [Int.mul_one]
  done := by
    intro X hP hw hK hc i pins s σ H E I hf st hg
    subst hP hw hK
    obtain ⟨f0, f1, f2, f3, f4, f5⟩ := hf it (by simp)
    exact wpAny_pyNext_range_end (I.ok.hd hc) st (by have : n ≤ i := hg; omega) fun h' eb => ⟨rfl, I.turned (t' := s.toks) (fun b o hb e => eb b o hb e) f0 f1 f3 f4 f5⟩
  self := fun _ _ _ _ _ st h => wpAny_pyIter_rangeiter st h
end L2

namespace L2
open PySem PySem.Spec PyProof.Rows
section
variable {X : Cx} {tg : Expr}
def iList (K : PySem.W.Frag) (tl : TE) : TI := fun σ H R => tl σ H fun x H1 => ∃ a, x = .ref a ∧ (∃ xs, SqL K H1 a xs) ∧ R (Itl K a) H1
def iTup (K : PySem.W.Frag) (tl : TE) : TI := fun σ H R => tl σ H fun x H1 => ∃ a, x = .ref a ∧ (∃ xs, SqT K H1 a xs) ∧ R (Itt K a) H1
theorem range_it {pins : List (Addr × Obj)} {σ : St} {H : Hp} {s : Shared} {R : It → Hp → Prop} {E : Value → Shared → Prop} {lo hi : Int} {t u v : Tok} {tk : Nat} (I : Inv X pins σ H s) (h1 : -(2 ^ 62) ≤ lo) (h2 : lo < 2 ^ 62) (h3 : -(2 ^ 62) ≤ hi) (h4 : hi < 2 ^ 62)
    (q : R (Itr lo (hi - lo).toNat) H) : wpAny (model X.prog X.w) X.A (pyIter (.ref s.heap.objs.size)) (PIE X pins σ tg R) E { s with heap := s.heap.push { cls := .type "range", data := .fields #[.int lo t, .int hi u, .int 1 v] }, toks := tk } := by
  refine wpAny_pyIter_range (IsRange.new ..) (small_one h1 h2 h3 h4) ?_
  have I1 : Inv X pins σ H { s with heap := s.heap.push { cls := .type "range", data := .fields #[.int lo t, .int hi u, .int 1 v] }, toks := tk } := I.kept fun b o e => Heap.get?_push_of_some _ e
  refine ⟨(s.heap.push { cls := .type "range", data := .fields #[.int lo t, .int hi u, .int 1 v] }).objs.size, [(s.heap.push { cls := .type "range", data := .fields #[.int lo t, .int hi u, .int 1 v] }).objs.size], _, _, H, rfl,
    I1.kept (t' := tk) fun b o e => Heap.get?_push_of_some _ e, turn_range _ lo (hi - lo).toNat, ?_, fun b hb => ?_, q⟩
  · have e1 : lo + ((0 : Nat) : Int) * 1 = lo := by simp
    have e2 : (((hi - lo).toNat : Nat) : Int) - ((0 : Nat) : Int) = Builtin.Range.rangeSize lo hi 1 := by rw [rangeSize_one]; split <;> omega
    show IsRangeIter _ _ (lo + ((0 : Nat) : Int) * 1) ((((hi - lo).toNat : Nat) : Int) - ((0 : Nat) : Int)) 1
    rw [e1, e2]
    exact Heap.get?_push_size _ rfl
  · have e : b = (s.heap.push { cls := .type "range", data := .fields #[.int lo t, .int hi u, .int 1 v] }).objs.size := by simpa using hb
    subst e
    exact I1.fpOk (Nat.le_refl _) (I1.hok.fresh (Nat.le_refl _))
def iRng1 (ta : TA) : TI := fun σ H R => ta σ H fun vs H1 => ∃ j : Int, vs = [.int j] ∧ -(2 ^ 62) ≤ j ∧ j < 2 ^ 62 ∧ R (Itr 0 j.toNat) H1
def iRng2 (ta : TA) : TI := fun σ H R => ta σ H fun vs H1 => ∃ i j : Int, vs = [.int i, .int j] ∧ (-(2 ^ 62) ≤ i ∧ i < 2 ^ 62 ∧ -(2 ^ 62) ≤ j ∧ j < 2 ^ 62) ∧ R (Itr i (j - i).toNat) H1
theorem pi_range1 {a : Expr} {ta : TA} {p pos : Pos} (hg : Gl X "range") (hm : X.mg "range" = none) (ha : PA X [a] ta) (hs : starEach [a] X.env = [(false, eval a X.env)] := by rfl) : PI X tg (.Call (.Name "range" p) [a] [] pos) (iRng1 ta) := by
  intro pins s σ H R I h
  refine Call_ (ld_blt I hg hm boot_range (PyProof.Rows.callWith_type1 (thn (ha pos pins s σ H _ I h) fun us s1 ⟨vs, H1, I1, r1, q1⟩ => ?_) hs rfl))
  obtain ⟨j, e, q1, q2, q⟩ := q1
  subst e
  cases r1 with
  | cons r rr =>
    cases rr
    obtain ⟨t, rfl⟩ := r
    exact call_range_1 (range_it I1 (by omega) (by omega) q1 q2 (by simpa using q))
def tFor (wi : TI) (g : TG) (tb : TS) : TS := fun D σ H => wi σ H fun J H1 => ∃ W : Nat → Nat → St → Hp → Prop, (∃ m, W 0 m σ H1) ∧ ∀ i m σ H, W i m σ H →
  (J.stop i H ∧ D.nx σ H) ∨ (J.go i H ∧ ∃ N : St → Hp → Prop, (∀ σ' H', N σ' H' → ∃ m', m' < m ∧ W (i + 1) m' σ' H') ∧ ∀ x H', J.yld i H x H' → g x σ H' fun σ2 H2 => tb { D with nx := N, ct := N, bk := D.nx } σ2 H2)
def pinsAt (fp : List Addr) (h : Heap) : List (Addr × Obj) := fp.filterMap fun b => (h.get? b).map fun o => (b, o)
theorem mem_pinsAt {fp : List Addr} {h : Heap} {b : Addr} {o : Obj} (hb : b ∈ fp) (e : h.get? b = some o) : (b, o) ∈ pinsAt fp h := List.mem_filterMap.mpr ⟨b, hb, by rw [e]; rfl⟩
theorem of_pinsAt {fp : List Addr} {h : Heap} {p : Addr × Obj} (hp : p ∈ pinsAt fp h) : p.1 ∈ fp ∧ h.get? p.1 = some p.2 := by
  obtain ⟨b, hb, e⟩ := List.mem_filterMap.mp hp
  cases q : h.get? b with
  | none => rw [q] at e; cases e
  | some o =>
    rw [q] at e
    have e' : (b, o) = p := Option.some.inj e
    subst e'
    exact ⟨hb, q⟩
theorem Inv.pinned {pins : List (Addr × Obj)} {σ : St} {H : Hp} {s : Shared} {fp : List Addr} (I : Inv X pins σ H s) (hf : ∀ b ∈ fp, FpOk X pins H b) (ho : ∀ b ∈ fp, ∃ o, s.heap.get? b = some o ∧ ∀ v, o.data ≠ .cell v) : Inv X (pins ++ pinsAt fp s.heap) σ H s :=
  I.pins_of fun p hp => (List.mem_append.mp hp).elim (fun z => I.pin p (List.mem_append_right _ z)) fun z => by
    obtain ⟨hb, e⟩ := of_pinsAt z
    obtain ⟨f0, f1, f2, _⟩ := hf p.1 hb
    obtain ⟨o, e', d⟩ := ho p.1 hb
    rw [e] at e'; cases e'
    exact ⟨e, f0, f1, f2, d⟩
theorem Inv.unpinned {pins pl : List (Addr × Obj)} {σ : St} {H : Hp} {s : Shared} (I : Inv X (pins ++ pl) σ H s) : Inv X pins σ H s := I.pins_of fun p hp => I.pin p (List.mem_append_right _ (List.mem_append_left _ hp))
theorem ps_for {iter : Expr} {body : List Stmt} {wi : TI} {g : TG} {tb : TS} {pos : Pos} (hp : PassesOwn (model X.prog X.w) X.A X.env X.xe) (hc : X.calm = true) (hi : PI X tg iter wi) (hg : PG X tg g) (hb : PSs X body tb)
    (hs : ∀ x, foldedSetIterable iter X.env x = pure x := by intro _; rfl) : PS X (.For tg iter body [] pos) (tFor wi g tb) := by
  intro pins s σ H D I h
  refine wpAny_For (thn (hi pins s σ H _ I h) fun v s1 h1 => thn h1 fun itv s2 h2 => ?_) hs
  obtain ⟨it, fp, tn, J, H2, e, I2, T, st2, f2, W, ⟨m0, w0⟩, turn⟩ := h2
  subst e
  -- what stays true of the iterator's objects through the loop
  have stat : ∀ {H' : Hp}, (∀ b ∈ fp, H' b = none) → ∀ b ∈ fp, FpOk X pins H' b := fun hn b hb => ⟨hn b hb, (f2 b hb).2⟩
  refine codeAny_forLoop_any (fun n s' => ∃ i σ' H', Inv X pins σ' H' s' ∧ tn i s'.heap ∧ (∀ b ∈ fp, H' b = none) ∧ W i n σ' H') ?_ m0 ⟨0, σ, H2, I2, st2, fun b hb => (f2 b hb).1, w0⟩
  rintro n s3 ⟨i, σ3, H3, I3, st3, fr3, w3⟩
  rcases turn i n σ3 H3 w3 with ⟨stop, qn⟩ | ⟨go, N, hN, step⟩
  · refine wpAny_passesOwn hp (thn (T.done X rfl rfl rfl hc i pins s3 σ3 H3 X.xe I3 (stat fr3) st3 stop) fun r s4 ⟨hr, I4⟩ => ?_)
    subst hr
    exact wpAny_execs_nil ⟨σ3, H3, I4, qn⟩
  · refine wpAny_passesOwn hp (thn (T.item X rfl rfl rfl hc i pins s3 σ3 H3 X.xe I3 (stat fr3) st3 go) fun r s4 ⟨u, hr, h4⟩ => ?_)
    subst hr
    refine wpAny_passesOwn hp (thn h4 fun _ s5 hq29 => ?_)
    obtain ⟨x, H5, I5, r5, y5, st5, fr5⟩ := hq29
    have I5' := I5.pinned (stat fr5) (T.obj _ _ st5)
    refine wpAny_passesOwn hp (thn (hg _ s5 σ3 H5 x u _ I5' r5 (step x H5 y5)) fun _ s6 ⟨σ6, H6, I6, q6⟩ => ?_)
    refine wpAny_passesOwn hp (thn (hb _ s6 σ6 H6 _ I6 q6) fun f s7 q7 => ?_)
    have again : ∀ {σ7 : St} {H7 : Hp}, Inv X (pins ++ pinsAt fp s5.heap) σ7 H7 s7 → N σ7 H7 → ∃ m, m < n ∧ ∃ i σ' H', Inv X pins σ' H' s7 ∧ tn i s7.heap ∧ (∀ b ∈ fp, H' b = none) ∧ W i m σ' H' := fun {σ7 H7} I7 n7 => by
      obtain ⟨m', hm, w7⟩ := hN σ7 H7 n7
      refine ⟨m', hm, i + 1, σ7, H7, I7.unpinned, T.keep _ _ _ st5 fun b hb o e => (I7.pin (b, o) (List.mem_append_right _ (List.mem_append_right _ (mem_pinsAt hb e)))).1, fun b hb => ?_, w7⟩
      obtain ⟨o, e, d⟩ := T.obj _ _ st5 b hb
      exact (I7.pin (b, o) (List.mem_append_right _ (List.mem_append_right _ (mem_pinsAt hb e)))).2.1
    cases f with
    | next => obtain ⟨σ7, H7, I7, n7⟩ := q7; exact again I7 n7
    | cont => obtain ⟨σ7, H7, I7, n7⟩ := q7; exact again I7 n7
    | brk => obtain ⟨σ7, H7, I7, q7⟩ := q7; exact ⟨σ7, H7, I7.unpinned, q7⟩
    | ret v => obtain ⟨x7, σ7, H7, I7, r7, q7⟩ := q7; exact ⟨x7, σ7, H7, I7.unpinned, r7, q7⟩
end

theorem for_range {lo : Int} {n : Nat} {g : TG} {tb : TS} {D : Ends} {σ : St} {H : Hp} (Pv : Nat → St → Hp → Prop) (h0 : Pv 0 σ H)
    (hs : ∀ i σ H, i < n → Pv i σ H → g (.int (lo + i)) σ H fun σ2 H2 => tb { D with nx := Pv (i + 1), ct := Pv (i + 1), bk := D.nx } σ2 H2) (hd : ∀ σ H, Pv n σ H → D.nx σ H) :
    ∃ W : Nat → Nat → St → Hp → Prop, (∃ m, W 0 m σ H) ∧ ∀ i m σ H, W i m σ H →
      ((Itr lo n).stop i H ∧ D.nx σ H) ∨ ((Itr lo n).go i H ∧ ∃ N : St → Hp → Prop, (∀ σ' H', N σ' H' → ∃ m', m' < m ∧ W (i + 1) m' σ' H') ∧ ∀ x H', (Itr lo n).yld i H x H' → g x σ H' fun σ2 H2 => tb { D with nx := N, ct := N, bk := D.nx } σ2 H2) := by
  refine ⟨fun i m σ H => m = n - i ∧ i ≤ n ∧ Pv i σ H, ⟨n, by simp, Nat.zero_le _, h0⟩, ?_⟩
  rintro i m σ H ⟨rfl, hi, p⟩
  by_cases hlt : i < n
  · refine .inr ⟨hlt, Pv (i + 1), fun σ' H' p' => ⟨n - (i + 1), by omega, rfl, hlt, p'⟩, fun x H' y => ?_⟩
    obtain ⟨e, y⟩ := y
    subst e y
    exact hs i σ _ hlt p
  · have e : i = n := by omega
    subst e
    exact .inl ⟨Nat.le_refl _, hd σ H p⟩
end L2

namespace L2
open PySem PySem.Spec PyProof.Rows

abbrev R2 := V → V → Hp → VK → Prop
def OpR (X : Cx) (f : Value → Value → Sem Value) (r : R2) : Prop :=
  ∀ (pins : List (Addr × Obj)) (s : Shared) (σ : St) (H : Hp) (x y : V) (v u : Value) (Q : VK), Inv X pins σ H s → RelV x v → RelV y u → r x y H Q →
    wpAny (model X.prog X.w) X.A (f v u) (EP X pins σ Q) X.xe s
def UnR (X : Cx) (f : Value → Sem Value) (r : V → Hp → VK → Prop) : Prop :=
  ∀ (pins : List (Addr × Obj)) (s : Shared) (σ : St) (H : Hp) (x : V) (v : Value) (Q : VK), Inv X pins σ H s → RelV x v → r x H Q →
    wpAny (model X.prog X.w) X.A (f v) (EP X pins σ Q) X.xe s
def CallR (X : Cx) (f : Value) (r : List V → Hp → VK → Prop) : Prop :=
  ∀ (pins : List (Addr × Obj)) (s : Shared) (σ : St) (H : Hp) (xs : List V) (us : List Value) (Q : VK), Inv X pins σ H s → Vals xs us → r xs H Q →
    wpAny (model X.prog X.w) X.A (call f us) (EP X pins σ Q) X.xe s
def TruR (X : Cx) (r : V → Hp → (Bool → Hp → Prop) → Prop) : Prop :=
  ∀ (pins : List (Addr × Obj)) (s : Shared) (σ : St) (H : Hp) (x : V) (v : Value) (Q : Bool → Hp → Prop), Inv X pins σ H s → RelV x v → r x H Q →
    wpAny (model X.prog X.w) X.A (truthy v) (TP X pins σ Q) X.xe s

def tOp (r : R2) (ta tb : TE) : TE := fun σ H Q => ta σ H fun x H1 => tb σ H1 fun y H2 => r x y H2 Q
def tUn (r : V → Hp → VK → Prop) (ta : TE) : TE := fun σ H Q => ta σ H fun x H1 => r x H1 Q
def rI (C : Int → Int → Prop) (g : Int → Int → V) : R2 := fun x y H Q => ∃ i j, x = .int i ∧ y = .int j ∧ C i j ∧ Q (g i j) H
def rI0 (g : Int → Int → V) : R2 := fun x y H Q => ∃ i j, x = .int i ∧ y = .int j ∧ Q (g i j) H
def rU (g : Int → V) : V → Hp → VK → Prop := fun x H Q => ∃ i, x = .int i ∧ Q (g i) H

section
variable {X : Cx} {a b c : Expr} {ta tb tc : TE} {pos : Pos}

theorem binT (ha : PE X a ta) (hb : PE X b tb) {pins : List (Addr × Obj)} {s : Shared} {σ : St} {H : Hp} {R : V → V → Hp → Prop} (I : Inv X pins σ H s)
    (h : ta σ H fun x H1 => tb σ H1 fun y H2 => R x y H2) {Q : Value → Shared → Prop} {f : Value → Value → Sem Value}
    (hf : ∀ v u s2 x y H2, Inv X pins σ H2 s2 → RelV x v → RelV y u → R x y H2 → wpAny (model X.prog X.w) X.A (f v u) Q X.xe s2) :
    wpAny (model X.prog X.w) X.A (eval a X.env) (fun v s₁ => wpAny (model X.prog X.w) X.A (eval b X.env) (fun u s₂ => wpAny (model X.prog X.w) X.A (f v u) Q X.xe s₂) X.xe s₁) X.xe s := by
  refine thn (ha pins s σ H _ I h) fun v s1 hq30 => ?_
  obtain ⟨x, H1, I1, r1, q1⟩ := hq30
  refine thn (hb pins s1 σ H1 _ I1 q1) fun u s2 hq31 => ?_
  obtain ⟨y, H2, I2, r2, q2⟩ := hq31
  exact hf v u s2 x y H2 I2 r1 r2 q2

theorem pe_op {op : Operator} {r : R2} (ho : OpR X (binaryOp op) r) (ha : PE X a ta) (hb : PE X b tb) : PE X (.BinOp a op b pos) (tOp r ta tb) := by
  intro pins s σ H Q I h
  exact wpAny_BinOp (binT ha hb I h fun v u s2 x y H2 I2 rx ry q => ho pins s2 σ H2 x y v u Q I2 rx ry q)
theorem pe_un {op : UnaryOp} {r : V → Hp → VK → Prop} (ho : UnR X (unaryOp op) r) (ha : PE X a ta) : PE X (.UnaryOp op a pos) (tUn r ta) := by
  intro pins s σ H Q I h
  exact UnaryOp_ (thn (ha pins s σ H _ I h) fun v s1 hq32 => by obtain ⟨x, H1, I1, r1, q1⟩ := hq32; exact ho pins s1 σ H1 x v Q I1 r1 q1)
theorem opI {f : Value → Value → Sem Value} {C : Int → Int → Prop} {g : Int → Int → Int}
    (rule : ∀ (i j : Int) (t u : Tok) (s : Shared) (Q : Value → Shared → Prop) (E : Value → Shared → Prop), C i j → Q (.int (g i j) s.toks) { s with toks := s.toks + 1 } → wpAny (model X.prog X.w) X.A (f (.int i t) (.int j u)) Q E s) :
    OpR X f (rI C fun i j => .int (g i j)) := by
  intro pins s σ H x y v u Q I rx ry h
  obtain ⟨i, j, rfl, rfl, hc, q⟩ := h
  obtain ⟨t, rfl⟩ := rx
  obtain ⟨t', rfl⟩ := ry
  exact rule i j t t' s _ _ hc ⟨.int (g i j), H, I.tok _, ⟨_, rfl⟩, q⟩
theorem opI0 {f : Value → Value → Sem Value} {g : Int → Int → Int}
    (rule : ∀ (i j : Int) (t u : Tok) (s : Shared) (Q : Value → Shared → Prop) (E : Value → Shared → Prop), Q (.int (g i j) s.toks) { s with toks := s.toks + 1 } → wpAny (model X.prog X.w) X.A (f (.int i t) (.int j u)) Q E s) :
    OpR X f (rI0 fun i j => .int (g i j)) := by
  intro pins s σ H x y v u Q I rx ry h
  obtain ⟨i, j, rfl, rfl, q⟩ := h
  obtain ⟨t, rfl⟩ := rx
  obtain ⟨t', rfl⟩ := ry
  exact rule i j t t' s _ _ ⟨.int (g i j), H, I.tok _, ⟨_, rfl⟩, q⟩
theorem opB0 {f : Value → Value → Sem Value} {g : Int → Int → Bool}
    (rule : ∀ (i j : Int) (t u : Tok) (s : Shared) (Q : Value → Shared → Prop) (E : Value → Shared → Prop), Q (.bool (g i j)) s → wpAny (model X.prog X.w) X.A (f (.int i t) (.int j u)) Q E s) :
    OpR X f (rI0 fun i j => .bl (g i j)) := by
  intro pins s σ H x y v u Q I rx ry h
  obtain ⟨i, j, rfl, rfl, q⟩ := h
  obtain ⟨t, rfl⟩ := rx
  obtain ⟨t', rfl⟩ := ry
  exact rule i j t t' s _ _ ⟨.bl (g i j), H, I, rfl, q⟩

def CDiv (i j : Int) : Prop := 0 < j ∧ j < 1073741824
def CDivN (i j : Int) : Prop := j ≠ 0 ∧ j.natAbs < 1073741824
def CPow (i j : Int) : Prop := 0 ≤ j ∧ j ≤ 1000000 ∧ i.natAbs < 2 ^ 64
def CMul (i j : Int) : Prop := (-(2 ^ 64) < i ∧ i < 2 ^ 64) ∨ (-(2 ^ 64) < j ∧ j < 2 ^ 64)
theorem op_add : OpR X (binaryOp .Add) (rI0 fun i j => .int (i + j)) := opI0 fun _ _ _ _ _ _ _ q => add_int q
theorem op_sub : OpR X (binaryOp .Sub) (rI0 fun i j => .int (i - j)) := opI0 fun _ _ _ _ _ _ _ q => sub_int q
theorem op_modN : OpR X (binaryOp .Mod) (rI (fun _ j => j ≠ 0) fun i j => .int (i.fmod j)) := opI fun _ _ _ _ _ _ _ hc q => mod_int' hc q
theorem op_pow : OpR X (binaryOp .Pow) (rI CPow fun i j => .int (i ^ j.toNat)) := opI fun _ _ _ _ _ _ _ hc q => pow_int_small hc.1 hc.2.1 hc.2.2 q
theorem unI {f : Value → Sem Value} {g : Int → Int}
    (rule : ∀ (i : Int) (t : Tok) (s : Shared) (Q : Value → Shared → Prop) (E : Value → Shared → Prop), Q (.int (g i) s.toks) { s with toks := s.toks + 1 } → wpAny (model X.prog X.w) X.A (f (.int i t)) Q E s) :
    UnR X f (rU fun i => .int (g i)) := by
  intro pins s σ H x v Q I rx h
  obtain ⟨i, rfl, q⟩ := h
  obtain ⟨t, rfl⟩ := rx
  exact rule i t s _ _ ⟨.int (g i), H, I.tok _, ⟨_, rfl⟩, q⟩
theorem un_neg : UnR X (unaryOp .USub) (rU fun i => .int (-i)) := unI fun _ _ _ _ _ q => neg_int q
end

def scal : V → V → Bool
  | .non, .non => true | .non, .int _ => true | .int _, .non => true | .non, .bl _ => true | .bl _, .non => true | .non, .str _ => true | .str _, .non => true
  | .int _, .int _ => true | .bl _, .bl _ => true | .str _, .str _ => true | .byt _, .byt _ => true
  | .int _, .str _ => true | .str _, .int _ => true | .bl _, .str _ => true | .str _, .bl _ => true
  | _, _ => false
def rEq : R2 := fun x y H Q => scal x y = true ∧ Q (.bl (decide (x = y))) H
def rNe : R2 := fun x y H Q => scal x y = true ∧ Q (.bl (!decide (x = y))) H

section
variable {X : Cx} {a b c : Expr} {ta tb tc : TE} {pos : Pos}
theorem op_lt : OpR X (compareOp .Lt) (rI0 fun i j => .bl (decide (i < j))) := opB0 fun _ _ _ _ _ _ _ q => lt_int q
theorem op_le : OpR X (compareOp .LtE) (rI0 fun i j => .bl (decide (i ≤ j))) := opB0 fun _ _ _ _ _ _ _ q => le_int q
theorem op_gt : OpR X (compareOp .Gt) (rI0 fun i j => .bl (decide (j < i))) := opB0 fun _ _ _ _ _ _ _ q => gt_int q
def isObj : HO → Bool
  | .lst _ => true
  | .ins _ _ _ => true
  | _ => false
theorem nomark (b : Expr) {op : CmpOp} (h : op ≠ .In := by decide) (h2 : op ≠ .NotIn := by decide) : behindInMarks op b = false := by
  have e1 : (op == CmpOp.In) = false := by cases op <;> first | rfl | exact absurd rfl h
  have e2 : (op == CmpOp.NotIn) = false := by cases op <;> first | rfl | exact absurd rfl h2
  cases b <;> simp [behindInMarks, e1, e2]
theorem pe_cmpR {op : CmpOp} {r : R2} (ho : OpR X (compareOp op) r) (ha : PE X a ta) (hb : PE X b tb) (hm : behindInMarks op b = false) : PE X (.Compare a [op] [b] pos) (tOp r ta tb) := by
  intro pins s σ H Q I h
  exact wpAny_Compare1 (binT ha hb I h fun v u s2 x y H2 I2 rx ry q => ho pins s2 σ H2 x y v u Q I2 rx ry q) hm
def tTest (t : TE) : TT := fun σ H Q => t σ H fun x H' => ∃ k, x = .bl k ∧ Q k H'
theorem pt_cmpR {op : CmpOp} {r : R2} (ho : OpR X (compareOp op) r) (ha : PE X a ta) (hb : PE X b tb) (hm : behindInMarks op b = false) : PT X (.Compare a [op] [b] pos) (tTest (tOp r ta tb)) := by
  intro pins s σ H Q I h
  refine wpAny_isTrue_Compare1 (thn (ha pins s σ H _ I h) fun v s1 ⟨x, H1, I1, r1, q1⟩ => thn (hb pins s1 σ H1 _ I1 q1) fun u s2 ⟨y, H2, I2, r2, q2⟩ =>
    thn (ho pins s2 σ H2 x y v u _ I2 r1 r2 q2) fun c s3 ⟨z, H3, I3, r3, k, e, q3⟩ => ?_) hm
  subst e
  cases r3
  exact wpAny_truthy_bool ⟨H3, I3, q3⟩
def tChain (r r' : R2) (ta tb tc : TE) : TE := fun σ H Q => ta σ H fun x H1 => tb σ H1 fun y H2 => r x y H2 fun z H3 => ∃ k, z = .bl k ∧
  (if k = true then tc σ H3 fun w' H4 => r' y w' H4 Q else Q (.bl false) H3)
theorem pe_chain {op op' : CmpOp} {r r' : R2} (ho : OpR X (compareOp op) r) (ho' : OpR X (compareOp op') r') (ha : PE X a ta) (hb : PE X b tb) (hc : PE X c tc)
    (hm : lastMarks [op, op'] [b, c] = false := by with_unfolding_all rfl) : PE X (.Compare a [op, op'] [b, c] pos) (tChain r r' ta tb tc) := by
  intro pins s σ H Q I h
  refine Compare_chain (thn (ha pins s σ H _ I h) fun v s1 ⟨x, H1, I1, r1, q1⟩ => chain_link (thn (hb pins s1 σ H1 _ I1 q1) fun u s2 ⟨y, H2, I2, r2, q2⟩ =>
    thn (ho pins s2 σ H2 x y v u _ I2 r1 r2 q2) fun d s3 ⟨z, H3, I3, r3, k, e, q3⟩ => ?_)) hm
  subst e
  cases r3
  refine wpAny_truthy_bool ?_
  cases k with
  | false => exact ite_ff ⟨.bl false, H3, I3, rfl, q3⟩
  | true => exact ite_tt (chain_last (thn (hc pins s3 σ H3 _ I3 q3) fun w' s4 hq39 => by obtain ⟨z', H4, I4, r4, q4⟩ := hq39; exact ho' pins s4 σ H4 y z' u w' Q I4 r2 r4 q4))
theorem pt_chain {op op' : CmpOp} {r r' : R2} (ho : OpR X (compareOp op) r) (ho' : OpR X (compareOp op') r') (ha : PE X a ta) (hb : PE X b tb) (hc : PE X c tc)
    (hm : lastMarks [op, op'] [b, c] = false := by with_unfolding_all rfl) : PT X (.Compare a [op, op'] [b, c] pos) (tTest (tChain r r' ta tb tc)) := by
  intro pins s σ H Q I h
  refine isTrue_chain (thn (ha pins s σ H _ I h) fun v s1 ⟨x, H1, I1, r1, q1⟩ => test_link (thn (hb pins s1 σ H1 _ I1 q1) fun u s2 ⟨y, H2, I2, r2, q2⟩ =>
    thn (ho pins s2 σ H2 x y v u _ I2 r1 r2 q2) fun d s3 ⟨z, H3, I3, r3, k, e, q3⟩ => ?_)) hm
  subst e
  cases r3
  refine wpAny_truthy_bool ?_
  cases k with
  | false =>
    obtain ⟨k', e', q'⟩ := q3
    cases e'
    exact ite_ff ⟨H3, I3, q'⟩
  | true =>
    refine ite_tt (test_last (thn (hc pins s3 σ H3 _ I3 q3) fun w' s4 ⟨z', H4, I4, r4, q4⟩ => thn (ho' pins s4 σ H4 y z' u w' _ I4 r2 r4 q4) fun d' s5 ⟨z2, H5, I5, r5, k2, e2, q5⟩ => ?_))
    subst e2
    cases r5
    exact wpAny_truthy_bool ⟨H5, I5, q5⟩

def TruV (K : PySem.W.Frag) (x : V) (H : Hp) (k : Bool) : Prop :=
  match x with
  | .non => k = false
  | .bl b => k = b
  | .int i => k = (i != 0)
  | .str y => y.length ≤ sizeLine ∧ k = ((y.length : Int) != 0)
  | .byt y => y.size ≤ sizeLine ∧ k = ((y.size : Int) != 0)
  | .ref p => (∃ xs, SqL K H p xs ∧ k = !xs.isEmpty) ∨ (∃ xs, SqT K H p xs ∧ k = !xs.isEmpty) ∨ ∃ kvs, H p = some (.dK kvs) ∧ k = !kvs.isEmpty
  | _ => False
theorem line63 : (sizeLine : Nat) < 2 ^ 63 := by rw [sizeLine_eq]; decide
theorem op_add_str : OpR X (binaryOp .Add) (fun x y H Q => ∃ i j, x = .str i ∧ y = .str j ∧ i.length + j.length ≤ sizeLine ∧ Q (.str (i ++ j)) H) := by
  intro pins s σ H x y v u Q I rx ry h
  obtain ⟨i, j, rfl, rfl, hz, q⟩ := h
  obtain ⟨t, rfl⟩ := rx
  obtain ⟨t', rfl⟩ := ry
  exact add_str (fun t' tk => ⟨.str (i ++ j), H, I.tok _, ⟨_, rfl⟩, q⟩) hz
def PlainIxT (b : Expr) : Prop := ∀ o i, subscripted b false o i = operate [o, i] (getItem o i)
theorem vals1 {x : V} {us : List Value} (r : Vals [x] us) : ∃ u, us = [u] ∧ RelV x u := by
  cases r with
  | cons r1 r2 => cases r2; exact ⟨_, rfl, r1⟩
theorem vals2 {x y : V} {us : List Value} (r : Vals [x, y] us) : ∃ u w', us = [u, w'] ∧ RelV x u ∧ RelV y w' := by
  cases r with
  | cons r1 r2 =>
    cases r2 with
    | cons r3 r4 => cases r4; exact ⟨_, _, rfl, r1, r3⟩
def LenV (K : PySem.W.Frag) (x : V) (H : Hp) (n : Nat) : Prop :=
  match x with
  | .str y => y.length ≤ sizeLine ∧ n = y.length
  | .byt y => y.size ≤ sizeLine ∧ n = y.size
  | .ref p => (∃ xs, SqL K H p xs ∧ n = xs.length) ∨ ∃ xs, SqT K H p xs ∧ n = xs.length
  | _ => False
end
end L2

namespace L2
open PySem PySem.Spec PyProof.Rows

structure ObjM (h : Heap) (x dx C : Addr) (mA : Str → Option Value) : Prop where
  obj : h.get? x = some (PySem.W.instObj C dx)
  ns : h.Ns1 dx mA
  ne : dx ≠ x

theorem lookIn_ns {h : Heap} {dx : Addr} {mA : Str → Option Value} (n : h.Ns1 dx mA) : ∃ od, h.get? dx = some od ∧ ∀ name, PySem.W.lookIn name od = some (mA name) := by
  obtain ⟨o, es, ep, ho, hd, hk, _, hm⟩ := n
  refine ⟨o, ho, fun name => ?_⟩
  have e := hm name
  unfold nsFind findBy at e
  rw [← Array.find?_toList] at e
  unfold PySem.W.lookIn
  rw [hd]
  dsimp only
  split
  · rename_i y q
    rw [q] at e
    exact congrArg some e
  · rename_i q
    rw [q] at e
    have a : es.toList.any (·.refKey) = false := by
      rw [List.any_eq_false]
      intro y hy
      obtain ⟨z, t, hkey⟩ := hk y (Array.mem_toList_iff.mp hy)
      simp [DictEntry.refKey, hkey]
    have a' : ¬ es.toList.any (·.refKey) = true := by rw [a]; exact Bool.false_ne_true
    rw [if_neg a']
    exact congrArg some e

theorem ObjM.look {h : Heap} {x dx C : Addr} {mA : Str → Option Value} (I : ObjM h x dx C mA) : ∃ od, PySem.W.InstAt h x (PySem.W.instObj C dx) C (some od) ∧ ∀ name, PySem.W.lookIn name od = some (mA name) :=
  let ⟨od, ho, hl⟩ := lookIn_ns I.ns
  ⟨od, ⟨I.obj, rfl, rfl, ho⟩, hl⟩

section
variable {prog : Program} {w : World} {A : Around} {E : Value → Shared → Prop} {s : Shared} {K : PySem.W.Frag} {x dx C f : Addr} {mA : Str → Option Value} {name : Str} {v : Value}

theorem get_map {expr : Bool} {Q : Value → Shared → Prop} (X : K.In s.heap) (I : ObjM s.heap x dx C mA) (hg : PySem.W.plainGet K C name = true) (hh : PySem.W.hasDictIn K C = true)
    (ha : PySem.W.findIn K (.ref C) name = some none) (hv : mA name = some v) (hv' : PySem.W.handedIn v = true) (h : Q v { s with toks := s.toks + 1 }) :
    wpAny (model prog w) A (getAttr (.ref x) name expr) Q E s := by
  obtain ⟨od, J, hl⟩ := I.look
  exact PySem.W.get_value X J (PySem.W.plainGet_of hg).1 (PySem.W.findObj_own hh ha rfl (by rw [hl, hv])) hv' h

theorem get_meth {pl : Sem Bool} {Q : Value × List Value → Shared → Prop} (X : K.In s.heap) (I : ObjM s.heap x dx C mA) (hg : PySem.W.plainGet K C name = true)
    (hf : PySem.W.findIn K (.ref C) name = some (some (.ref f))) (ht : PySem.W.isFn K (.ref f) = true) (hv : mA name = none) (h : Q (.ref f, [.ref x]) s) :
    wpAny (model prog w) A (getMethod (.ref x) name pl) Q E s := by
  obtain ⟨od, J, hl⟩ := I.look
  exact PySem.W.method_fn X J (PySem.W.plainGet_of hg).1 (PySem.W.plainGet_of hg).2 hf (beq_iff_eq.mp ht) (by show (PySem.W.lookIn name od).map (·.isSome) = some false; rw [hl, hv]; rfl) h

theorem set_map {ns : List Str} {Q : Unit → Shared → Prop} (X : K.In s.heap) (I : ObjM s.heap x dx C mA)
    (hs : PySem.W.findIn K (.ref C) "__setattr__" = some (some (.builtin "object.__setattr__"))) (hp : PySem.W.plainOver K C = true) (ht : PySem.W.takerIn K C name = some none) (hh : PySem.W.hasDictIn K C = true)
    (hw : PySem.Within mA ns) (hsz : ns.length ≤ sizeLine)
    (h : ∀ h', ObjM h' x dx C (fun y => if y = name then some v else mA y) → Heap.SameBut dx s.heap h' → Q () { s with heap := h', toks := s.toks + 2 }) :
    wpAny (model prog w) A (setAttr (.ref x) name v) Q E s := by
  obtain ⟨od, J, hl⟩ := I.look
  refine PySem.W.set_plain X J hs (PySem.W.osa_open (s := { s with toks := s.toks + 1 }) (r := none) X J hp ht fun b => ?_)
  obtain ⟨cd, hc, hd'⟩ := PySem.W.any_some hh
  have hx : s.heap.get? x = some ⟨.ref C, some dx, .plain, #[]⟩ := I.obj
  refine wpAny_bind (wpAny_pure (wpAny_bind (wpAny_bind (wpAny_loadPart hx (wpAny_bind (PySem.W.Looks.here (s := { s with toks := s.toks + 1 }) (PySem.W.looks_clsIn X hc) ?_))))))
  rw [hd']
  refine wpAny_pure (a := some dx) (wpAny_bind (wpAny_pure (wpAny_bind ?_)))
  refine wpAny_nsSet1 (s := { s with toks := s.toks + 1 }) I.ns fun h' hn2 hs2 => ?_
  obtain ⟨oD, esD, epD, hoD, hdD, hcD⟩ := hn2.count (PySem.Within.cons name v hw)
  refine wpAny_bind (wpAny_lookBehind hoD (by rw [hdD]; exact pastItsLine_dict (Nat.le_trans hcD (by rw [List.length_cons]; omega))) ?_)
  exact wpAny_pure (h _ ⟨(hs2.2 _ (Ne.symm I.ne)).trans I.obj, hn2, I.ne⟩ hs2)

theorem make_map {R : Result → Shared → Prop} {vs : List Value} {kw : List (Str × Value)} (X : K.In s.heap) (hm : PySem.W.makesIn K C = true)
    (hi : PySem.W.findIn K (.ref C) "__init__" = some (some (.ref f))) (hf : PySem.W.typeIn K (.ref f) = some (.type "function"))
    (h : codeAny (model prog w) (A.under (.builtin "type.__call__" ⟨.ref C :: vs, kw⟩)) (.call (.ref f) ⟨.ref (s.heap.objs.size + 1) :: vs, kw⟩) (PySem.W.InitBack (s.heap.objs.size + 1) R)
      { s with heap := (s.heap.push PySem.W.emptyDict).push (PySem.W.instObj C s.heap.objs.size) }) :
    codeAny (model prog w) A (.call (.ref C) ⟨vs, kw⟩) R s := by
  obtain ⟨hh, g, d, t, os⟩ := s
  exact PySem.W.make_core (PySem.W.makes_of X hm) (PySem.W.looks_findIn X hi) (fun self => PySem.W.bind_fn X self hf) (.inl rfl) h
end

def putF (f : Str) (v : V) : List (Str × V) → List (Str × V)
  | [] => [(f, v)]
  | (g, x) :: r => if g = f then (g, v) :: r else (g, x) :: putF f v r
theorem lookup_putF (f g : Str) (v : V) : ∀ fs : List (Str × V), (putF f v fs).lookup g = if g = f then some v else fs.lookup g
  | [] => by
    show List.lookup g [(f, v)] = _
    by_cases h : g = f
    · have hb : (g == f) = true := beq_iff_eq.mpr h
      simp only [List.lookup, hb, if_pos h]
    · have hb : (g == f) = false := beq_eq_false_iff_ne.mpr h
      simp only [List.lookup, hb, if_neg h]
  | (k, x) :: r => by
    have ih := lookup_putF f g v r
    rw [show putF f v ((k, x) :: r) = (if k = f then (k, v) :: r else (k, x) :: putF f v r) from rfl]
    by_cases hk : k = f
    · rw [if_pos hk]
      by_cases h : g = k
      · have hb : (g == k) = true := beq_iff_eq.mpr h
        simp only [List.lookup, hb, if_pos (h.trans hk)]
      · have hb : (g == k) = false := beq_eq_false_iff_ne.mpr h
        simp only [List.lookup, hb, if_neg (fun e : g = f => h (e.trans hk.symm))]
    · rw [if_neg hk]
      by_cases h : g = k
      · have hb : (g == k) = true := beq_iff_eq.mpr h
        simp only [List.lookup, hb, if_neg (fun e : g = f => hk (h.symm.trans e))]
      · have hb : (g == k) = false := beq_eq_false_iff_ne.mpr h
        simp only [List.lookup, hb]
        exact ih
theorem keys_putF (f : Str) (v : V) : ∀ fs : List (Str × V), f ∈ (putF f v fs).map (·.1) ∧ ∀ g, g ∈ fs.map (·.1) → g ∈ (putF f v fs).map (·.1)
  | [] => ⟨by simp [putF], fun g h => by simp at h⟩
  | (k, x) :: r => by
    obtain ⟨i1, i2⟩ := keys_putF f v r
    rw [show putF f v ((k, x) :: r) = (if k = f then (k, v) :: r else (k, x) :: putF f v r) from rfl]
    by_cases hk : k = f
    · rw [if_pos hk]
      subst hk
      exact ⟨by simp, fun g h => by simpa using h⟩
    · rw [if_neg hk]
      refine ⟨?_, fun g h => ?_⟩
      · rw [List.map_cons]
        exact List.mem_cons_of_mem _ i1
      · rw [List.map_cons] at h ⊢
        rcases List.mem_cons.mp h with e | e
        · exact List.mem_cons.mpr (.inl e)
        · exact List.mem_cons_of_mem _ (i2 g e)
theorem length_putF (f : Str) (v : V) : ∀ fs : List (Str × V), (putF f v fs).length ≤ fs.length + 1
  | [] => by simp [putF]
  | (k, x) :: r => by
    have ih := length_putF f v r
    rw [show putF f v ((k, x) :: r) = (if k = f then (k, v) :: r else (k, x) :: putF f v r) from rfl]
    by_cases hk : k = f
    · rw [if_pos hk, List.length_cons, List.length_cons]; omega
    · rw [if_neg hk, List.length_cons, List.length_cons]; omega

theorem RelO.some_of {v : V} {o : Option Value} (r : RelO (some v) o) : ∃ u, o = some u ∧ RelV v u := by
  cases o with
  | none => exact (show False from r).elim
  | some u => exact ⟨u, rfl, r⟩
theorem RelO.none_of {o : Option Value} (r : RelO none o) : o = none := by
  cases o with
  | none => rfl
  | some u => exact (show False from r).elim
theorem handed_of {v : V} {u : Value} (r : RelV v u) : PySem.W.handedIn u = true := by
  cases v with
  | non => cases (show u = Value.none from r); rfl
  | bl b => cases (show u = Value.bool b from r); rfl
  | int i => obtain ⟨t, e⟩ := (show ∃ t, u = Value.int i t from r); cases e; rfl
  | str x => obtain ⟨t, e⟩ := (show ∃ t, u = Value.str x t from r); cases e; rfl
  | byt b => obtain ⟨t, e⟩ := (show ∃ t, u = Value.bytes b t from r); cases e; rfl
  | flt b => obtain ⟨t, e⟩ := (show ∃ t, u = Value.float b t from r); cases e; rfl
  | ref a => cases (show u = Value.ref a from r); rfl
  | ty n => cases (show u = Value.type n from r); rfl

section
variable {P : Program} {w : World} {H H' : Hp} {h h' : Heap} {a C dx : Addr} {fs fs' : List (Str × V)}
theorem ins_get (hok : HOk P w H h) (e : H a = some (.ins C dx fs)) : ∃ mA, ObjM h a dx C mA ∧ (∀ f, RelO (fs.lookup f) (mA f)) ∧ PySem.Within mA (fs.map (·.1)) ∧ fs.length ≤ 1000 ∧ H dx = some (.own a) := by
  obtain ⟨d, z, ne, ob, mA, n, r, q⟩ := (show ObjOk P w H h a (.ins C dx fs) from hok a _ e)
  exact ⟨mA, ⟨ob, n, ne⟩, r, q, z, d⟩
end

structure Cls (K : PySem.W.Frag) (C : Addr) : Prop where
  pg : PySem.W.plainGet K C Str.empty = true
  hd : PySem.W.hasDictIn K C = true
  po : PySem.W.plainOver K C = true
  sa : PySem.W.findIn K (.ref C) "__setattr__" = some (some (.builtin "object.__setattr__"))
theorem Cls.get {K : PySem.W.Frag} {C : Addr} (c : Cls K C) (f : Str) : PySem.W.plainGet K C f = true := c.pg
def NoAttr (K : PySem.W.Frag) (C : Addr) (f : Str) : Prop := PySem.W.findIn K (.ref C) f = some none
theorem NoAttr.taker {K : PySem.W.Frag} {C : Addr} {f : Str} (n : NoAttr K C f) : PySem.W.takerIn K C f = some none := by
  unfold PySem.W.takerIn
  rw [show PySem.W.findIn K (.ref C) f = some none from n]
  rfl
structure Con (K : PySem.W.Frag) (C : Addr) (f : Str) (v : V) (u : Value) : Prop where
  at_ : PySem.W.findIn K (.ref C) f = some (some u)
  rel : RelV v u
  get : PySem.W.specialIn K u "__get__" = some none
  cp : PySem.W.copiedNames.contains f = false
structure Meth (K : PySem.W.Frag) (C : Addr) (m : Str) (f : Addr) : Prop where
  at_ : PySem.W.findIn K (.ref C) m = some (some (.ref f))
  fn : PySem.W.isFn K (.ref f) = true
  kp : PySem.W.keepIn K (.ref f) = true

section
variable {X : Cx} {pins : List (Addr × Obj)} {σ : St} {H : Hp} {s : Shared} {a C dx : Addr} {fs : List (Str × V)} {f : Str} {v : V} {A : Around} {E : Value → Shared → Prop}

theorem getattr_ok {b : Bool} {Q : Value → Shared → Prop} (I : Inv X pins σ H s) (e : H a = some (.ins C dx fs)) (c : Cls X.K C) (n : NoAttr X.K C f) (l : fs.lookup f = some v)
    (h : ∀ u s', Inv X pins σ H s' → RelV v u → Q u s') : wpAny (model X.prog X.w) A (getAttr (.ref a) f b) Q E s := by
  obtain ⟨mA, O, r, _, _, _⟩ := ins_get I.hok e
  obtain ⟨u, hu, ru⟩ := RelO.some_of (v := v) (o := mA f) (by rw [← l]; exact r f)
  exact get_map I.kIn O (c.get f) c.hd n hu (handed_of ru) (h u _ (I.tok _) ru)

theorem getmeth_ok {m : Str} {g : Addr} {pl : Sem Bool} {Q : Value × List Value → Shared → Prop} (I : Inv X pins σ H s) (e : H a = some (.ins C dx fs)) (c : Cls X.K C) (k : Meth X.K C m g) (l : fs.lookup m = none)
    (h : Q (.ref g, [.ref a]) s) : wpAny (model X.prog X.w) A (getMethod (.ref a) m pl) Q E s := by
  obtain ⟨mA, O, r, _, _, _⟩ := ins_get I.hok e
  have hn : mA m = none := RelO.none_of (by rw [← l]; exact r m)
  exact get_meth I.kIn O (c.get m) k.at_ k.fn hn h

theorem setattr_ok {y : V} {u : Value} {Q : Unit → Shared → Prop} (I : Inv X pins σ H s) (e : H a = some (.ins C dx fs)) (c : Cls X.K C) (n : NoAttr X.K C f) (hl : fs.length < 1000) (ry : RelV y u)
    (h : ∀ s', Inv X pins σ (upd H a (.ins C dx (putF f y fs))) s' → Q () s') : wpAny (model X.prog X.w) A (setAttr (.ref a) f u) Q E s := by
  obtain ⟨mA, O, r, wi, _, ho⟩ := ins_get I.hok e
  have hz : (fs.map (·.1)).length ≤ sizeLine := by rw [List.length_map, sizeLine_eq]; omega
  refine set_map I.kIn O c.sa c.po n.taker c.hd wi hz fun h' O' sb => h _ ?_
  have hd : ∃ o, h'.get? dx = some o := let ⟨o, _, _, e', _⟩ := O'.ns; ⟨o, e'⟩
  refine I.write (x := a) (e := dx) (by rw [e]; exact True.intro) (.inr ho) (fun b q hb z => (sb.2 b hb).trans z) hd ?_
  refine ⟨by rw [upd_ne O.ne]; exact ho, ?_, O.ne, O'.obj, _, O'.ns, fun g => ?_, fun g hg => ?_⟩
  · have := length_putF f y fs; omega
  · show RelO ((putF f y fs).lookup g) (if g = f then some u else mA g)
    rw [lookup_putF]
    by_cases q : g = f
    · rw [if_pos q, if_pos q]; exact ry
    · rw [if_neg q, if_neg q]; exact r g
  · by_cases q : g = f
    · rw [q]; exact (keys_putF f y fs).1
    · refine (keys_putF f y fs).2 g (wi g fun z => hg ?_)
      show (if g = f then some u else mA g) = none
      rw [if_neg q]; exact z

theorem Inv.made (I : Inv X pins σ H s) : Inv X pins σ (upd (upd H s.heap.objs.size (.own (s.heap.objs.size + 1))) (s.heap.objs.size + 1) (.ins C s.heap.objs.size []))
    { s with heap := (s.heap.push PySem.W.emptyDict).push (PySem.W.instObj C s.heap.objs.size) } := by
  have e1 : (s.heap.push PySem.W.emptyDict).get? s.heap.objs.size = some PySem.W.emptyDict := Heap.get?_push_size s.heap rfl
  have e2 : ((s.heap.push PySem.W.emptyDict).push (PySem.W.instObj C s.heap.objs.size)).get? (s.heap.objs.size + 1) = some (PySem.W.instObj C s.heap.objs.size) := by
    have := Heap.get?_push_size (s.heap.push PySem.W.emptyDict) (o := PySem.W.instObj C s.heap.objs.size) rfl
    rwa [Heap.size_push] at this
  have e3 : (s.heap.push PySem.W.emptyDict).Ns s.heap.objs.size (fun _ => none) := ⟨PySem.W.emptyDict, #[], _, e1, rfl, (fun e he => absurd he (by simp)), fun _ => rfl⟩
  have I1 := I.laid (a := s.heap.objs.size) (o := .own (s.heap.objs.size + 1)) (h' := s.heap.push PySem.W.emptyDict) (t' := s.toks) (fun b u q => Heap.get?_push_of_some _ q) (Nat.le_refl _) ⟨_, e1⟩
  refine I1.laid (a := s.heap.objs.size + 1) (o := .ins C s.heap.objs.size []) (t' := s.toks) (fun b u q => Heap.get?_push_of_some _ q) (Nat.le_of_eq (Heap.size_push _ _)) ?_
  have ne : s.heap.objs.size ≠ s.heap.objs.size + 1 := Nat.ne_of_lt (Nat.lt_succ_self _)
  refine ⟨by rw [upd_ne ne, upd_same], Nat.zero_le _, ne, e2, fun _ => none, (Heap.Ns1.of_empty e3).at fun o q => Heap.get?_push_of_some _ q, fun _ => True.intro, fun y hy => absurd rfl hy⟩

theorem attr_of {prog : Program} {w : World} {env : Env} {e : Expr} {f : Str} {pos : Pos} {s : Shared} {Q : Value → Shared → Prop} (hb : attributeBase e f env (eval e env) = eval e env)
    (h : wpAny (model prog w) A (eval e env) (fun o s₁ => wpAny (model prog w) A (getAttr o f true) Q E s₁) E s) : wpAny (model prog w) A (eval (.Attribute e f pos) env) Q E s :=
  Attribute_any_ h (by rw [arm_eval_Attribute, hb])
end

def tFld (K : PySem.W.Frag) (ta : TE) (f : Str) : TE := fun σ H Q => ta σ H fun x H1 => ∃ a C dx fs v, x = .ref a ∧ H1 a = some (.ins C dx fs) ∧ Cls K C ∧ NoAttr K C f ∧ fs.lookup f = some v ∧ Q v H1
def tCon (K : PySem.W.Frag) (ta : TE) (f : Str) : TE := fun σ H Q => ta σ H fun x H1 => ∃ a C dx fs v u, x = .ref a ∧ H1 a = some (.ins C dx fs) ∧ Cls K C ∧ Con K C f v u ∧ fs.lookup f = none ∧ Q v H1
def sFld (K : PySem.W.Frag) (ta tv : TE) (f : Str) : TS := fun D σ H => tv σ H fun y H1 => ta σ H1 fun x H2 => ∃ a C dx fs, x = .ref a ∧ H2 a = some (.ins C dx fs) ∧ Cls K C ∧ NoAttr K C f ∧ fs.length < 1000 ∧
  D.nx σ (upd H2 a (.ins C dx (putF f y fs)))
def InOp (X : Cx) (op : Operator) (rd : V → V → Hp → VK → Prop) : Prop :=
  ∀ (pins : List (Addr × Obj)) (s : Shared) (σ : St) (H : Hp) (x y : V) (u v : Value) (Q : VK), Inv X pins σ H s → RelV x u → RelV y v → rd x y H Q → wpAny (model X.prog X.w) X.A (inplaceOp op u v) (EP X pins σ Q) X.xe s
def sFldAug (K : PySem.W.Frag) (ta tv : TE) (rd : V → V → Hp → VK → Prop) (f : Str) : TS := fun D σ H => ta σ H fun x H1 => ∃ a C dx fs v, x = .ref a ∧ H1 a = some (.ins C dx fs) ∧ Cls K C ∧ NoAttr K C f ∧ fs.lookup f = some v ∧
  tv σ H1 fun y H2 => rd v y H2 fun z H3 => ∃ dx' fs', H3 a = some (.ins C dx' fs') ∧ fs'.length < 1000 ∧ D.nx σ (upd H3 a (.ins C dx' (putF f z fs')))

section
variable {X : Cx} {o e value : Expr} {f : Str} {pos pos' tpos : Pos} {ta tv : TE}
theorem pe_fld (he : PE X e ta) (hb : attributeBase e f X.env (eval e X.env) = eval e X.env) : PE X (.Attribute e f pos) (tFld X.K ta f) := by
  intro pins s σ H Q I h
  refine attr_of hb (thn (he pins s σ H _ I h) fun u s1 hq46 => ?_)
  obtain ⟨x, H1, I1, rx, a, C, dx, fs, v, ex, ea, c, n, l, q⟩ := hq46
  subst ex
  obtain rfl : u = Value.ref a := rx
  exact getattr_ok I1 ea c n l fun u' s2 I2 ru => ⟨v, H1, I2, ru, q⟩
theorem ps_fld (ha : PE X o ta) (hv : PE X value tv) (hs : swapsWith value (some (.Attribute o f pos')) pos.line X.env = pure false) : PS X (.Assign [.Attribute o f pos'] value pos) (sFld X.K ta tv f) := by
  intro pins s σ H D I h
  refine plainObj_wpAny_Assign_Attribute (thn (hv pins s σ H _ I h) fun u s1 ⟨y, H1, I1, ry, q⟩ => thn (ha pins s1 σ H1 _ I1 q) fun ov s2 ⟨x, H2, I2, rx, a, C, dx, fs, ex, ea, c, n, l, q2⟩ => ?_) hs
  subst ex
  obtain rfl : ov = Value.ref a := rx
  exact setattr_ok I2 ea c n l ry fun s3 I3 => ⟨σ, _, I3, q2⟩
def rAdd : V → V → Hp → VK → Prop := fun x y H Q => ∃ i j, x = .int i ∧ y = .int j ∧ Q (.int (i + j)) H
def rSub : V → V → Hp → VK → Prop := fun x y H Q => ∃ i j, x = .int i ∧ y = .int j ∧ Q (.int (i - j)) H
end

section
variable {X : Cx} {pins : List (Addr × Obj)} {σ : St} {H : Hp} {s : Shared} {A : Around} {E : Value → Shared → Prop} {Q : Value → Shared → Prop} {c : Value} {b : Bool}
inductive TyOf (K : PySem.W.Frag) (H : Hp) : V → Value → Prop where
  | non : TyOf K H .non (.type "NoneType")
  | bl (x : Bool) : TyOf K H (.bl x) (.type "bool")
  | int (i : Int) : TyOf K H (.int i) (.type "int")
  | str (x : Str) : TyOf K H (.str x) (.type "str")
  | flt (x : UInt64) : TyOf K H (.flt x) (.type "float")
  | lst {a : Addr} {xs : List V} (e : H a = some (.lst xs)) : TyOf K H (.ref a) (.type "list")
  | frz {a : Addr} {o : Obj} {xs : List V} (e : H a = some (.frz o (.lst xs))) : TyOf K H (.ref a) (.type "list")
  | tup {a : Addr} {xs : List V} (e : H a = some (.tup xs)) : TyOf K H (.ref a) (.type "tuple")
  | dK {a : Addr} {kvs : List (Key × V)} (e : H a = some (.dK kvs)) : TyOf K H (.ref a) (.type "dict")
  | dT {a : Addr} {kvs : List (List Key × V)} (e : H a = some (.dT kvs)) : TyOf K H (.ref a) (.type "dict")
  | ins {a C dx : Addr} {fs : List (Str × V)} (e : H a = some (.ins C dx fs)) (cl : Cls K C) (ha : PySem.W.findIn K (.ref C) "__class__" = some (some (.builtin "object.__class__")))
      (hn : PySem.W.specialIn K (.builtin "object.__class__") "__get__" = some (some (.builtin "getset_descriptor.__get__"))) (htk : PySem.W.takesIn K (.builtin "object.__class__") = some true)
      (hm : PySem.W.mroIn K C (.type "object") = some true) : TyOf K H (.ref a) (.ref C)
theorem isinst_ok {x : V} {u t : Value} (I : Inv X pins σ H s) (rx : RelV x u) (ty : TyOf X.K H x t) (e : PySem.W.kitOne X.K t c = some b) (h : ∀ tk, Q (.bool b) { s with toks := tk }) :
    wpAny (model X.prog X.w) A (call (.builtin "isinstance") [u, c]) Q E s := by
  cases ty with
  | non => cases (show u = Value.none from rx); exact PySem.W.kia_one PySem.W.kitx_none I.kIn True.intro e (fun z => nomatch z) h
  | bl y => cases (show u = Value.bool y from rx); exact PySem.W.kia_one PySem.W.kitx_bool I.kIn True.intro e (fun z => nomatch z) h
  | int i => obtain ⟨t, q⟩ := (show ∃ t, u = Value.int i t from rx); cases q; exact PySem.W.kia_one PySem.W.kitx_int I.kIn True.intro e (fun z => nomatch z) h
  | str y => obtain ⟨t, q⟩ := (show ∃ t, u = Value.str y t from rx); cases q; exact PySem.W.kia_one PySem.W.kitx_str I.kIn True.intro e (fun z => nomatch z) h
  | flt y => obtain ⟨t, q⟩ := (show ∃ t, u = Value.float y t from rx); cases q; exact PySem.W.kia_one PySem.W.kitx_float I.kIn True.intro e (fun z => nomatch z) h
  | @lst a xs ea =>
    cases (show u = Value.ref a from rx)
    obtain ⟨_, _, n, _, h1⟩ := (show ObjOk X.prog X.w H s.heap a (.lst xs) from I.hok a _ ea)
    exact PySem.W.kia_one PySem.W.kitx_list I.kIn ⟨_, h1, rfl⟩ e (fun z => nomatch z) h
  | @frz a ob xs ea =>
    cases (show u = Value.ref a from rx)
    obtain ⟨_, _, _, n, _, h1⟩ := (show ObjOk X.prog X.w H s.heap a (.frz ob (.lst xs)) from I.hok a _ ea)
    exact PySem.W.kia_one PySem.W.kitx_list I.kIn ⟨_, h1, rfl⟩ e (fun z => nomatch z) h
  | @tup a xs ea =>
    cases (show u = Value.ref a from rx)
    obtain ⟨_, _, _, p⟩ := (show ObjOk X.prog X.w H s.heap a (.tup xs) from I.hok a _ ea)
    obtain ⟨o, h1, h2, _⟩ := p
    exact PySem.W.kia_one PySem.W.kitx_tuple I.kIn ⟨o, h1, h2⟩ e (fun z => nomatch z) h
  | @dK a kvs ea =>
    cases (show u = Value.ref a from rx)
    obtain ⟨_, _, vs, _, p⟩ := (show ObjOk X.prog X.w H s.heap a (.dK kvs) from I.hok a _ ea)
    obtain ⟨o, es, ep, h1, h2, _⟩ := p
    exact PySem.W.kia_one PySem.W.kitx_dict I.kIn ⟨o, h1, h2.1⟩ e (fun z => nomatch z) h
  | @dT a kvs ea =>
    cases (show u = Value.ref a from rx)
    obtain ⟨_, _, xs, _, o, es, ep, h1, h2, _⟩ := (show ObjOk X.prog X.w H s.heap a (.dT kvs) from I.hok a _ ea)
    exact PySem.W.kia_one PySem.W.kitx_dict I.kIn ⟨o, h1, h2.1⟩ e (fun z => nomatch z) h
  | @ins a C dx fs ea cl ha hn htk hm =>
    cases (show u = Value.ref a from rx)
    obtain ⟨mA, O, _⟩ := ins_get I.hok ea
    obtain ⟨od, J, _⟩ := O.look
    exact PySem.W.kia_one (PySem.W.kitx_own (cl.get _) cl.hd ha hn htk hm) I.kIn J e (fun z => nomatch z) h
end
end L2

namespace L2
open PySem PySem.Spec PyProof.Rows

structure Room (k : Nat) (A : Around) : Prop where
  hd : A.handled = none
  dp : A.depth + 3 * k + 5 < recursionLimit
  un : A.units + 16 * k + 200 < cLine
theorem Room.mono {j k : Nat} {A : Around} (r : Room k A) (h : j ≤ k) : Room j A := ⟨r.hd, by have := r.dp; omega, by have := r.un; omega⟩
theorem Room.deeper {k : Nat} {A : Around} (r : Room (k + 1) A) (env : Env) : Room k (A.deeper env) :=
  ⟨r.hd, by have := r.dp; show A.depth + 1 + 3 * k + 5 < _; omega, by have := r.un; show A.units + 3 + 16 * k + 200 < _; omega⟩
theorem make_depth {A : Around} {C : Addr} {us : List Value} {kw : List (Str × Value)} : (A.under (.builtin "type.__call__" ⟨.ref C :: us, kw⟩)).depth = A.depth + 1 := by
  first | rfl | simp [Around.under, Code.weight, Code.isCreation, Code.isGuard, Code.isCaller, Code.frames, Code.isFrame, guardIds]
theorem make_units {A : Around} {C : Addr} {us : List Value} {kw : List (Str × Value)} : (A.under (.builtin "type.__call__" ⟨.ref C :: us, kw⟩)).units = A.units + 1 := by
  first | rfl | simp [Around.under, Code.cUnits, Code.frames, Code.isFrame]
theorem Room.make {k : Nat} {A : Around} (r : Room (k + 1) A) (C : Addr) (us : List Value) (kw : List (Str × Value)) : Room k (A.under (.builtin "type.__call__" ⟨.ref C :: us, kw⟩)) :=
  ⟨r.hd, by have := r.dp; rw [make_depth]; omega, by have := r.un; rw [make_units]; omega⟩
theorem Room.depth {k : Nat} {A : Around} (r : Room k A) : A.depth < recursionLimit := by have := r.dp; omega
theorem Room.units {k : Nat} {A : Around} (r : Room k A) : A.units + 64 < cLine := by have := r.un; omega
def tNil : TA := fun _ H Q => Q [] H
def tCons (ta : TE) (tr : TA) : TA := fun σ H Q => ta σ H fun x H1 => tr σ H1 fun xs H2 => Q (x :: xs) H2
section
variable {X : Cx} {e : Expr} {es : List Expr} {te : TE} {t : TA} {pos : Pos}
theorem pa_nil : PA X [] tNil := fun _ _ _ _ H Q I h => Calls.spliced_nil ⟨[], H, I, .nil, h⟩
theorem pa_cons (ha : PE X e te) (hr : PA X es t) (hs : starEach (e :: es) X.env = (false, eval e X.env) :: starEach es X.env := by rfl) : PA X (e :: es) (tCons te t) := by
  intro pos pins s σ H Q I h
  rw [hs]
  show wpAny _ _ (spliced ((false, eval e X.env) :: backTo pos (starEach es X.env))) _ _ s
  refine Calls.spliced_cons (thn (ha pins s σ H _ I h) fun u s1 hq54 => ?_)
  obtain ⟨x, H1, I1, r1, q1⟩ := hq54
  exact thn (hr pos pins s1 σ H1 _ I1 q1) fun us s2 hq55 => by obtain ⟨xs, H2, I2, r2, q2⟩ := hq55; exact ⟨x :: xs, H2, I2, .cons r1 r2, q2⟩

def tTup (t : TA) : TE := fun σ H Q => t σ H fun xs H1 => xs.length ≤ sizeLine ∧ ∀ p, H1 p = none → Q (.ref p) (upd H1 p (.tup xs))
def tLst (t : TA) : TE := fun σ H Q => t σ H fun xs H1 => xs.length ≤ sizeLine ∧ ∀ p, H1 p = none → Q (.ref p) (upd H1 p (.lst xs))
theorem pe_tup {x1} (h : PA X es t) : PE X (.Tuple es x1 pos) (tTup t) := by
  intro pins s σ H Q I hq
  refine wpAny_Tuple_spliced (thn (h pos pins s σ H _ I hq) fun us s1 ⟨xs, H1, I1, r, z, q⟩ => ⟨by rw [← r.length]; exact z, ?_⟩)
  have hf : H1 s1.heap.objs.size = none := I1.hok.fresh (Nat.le_refl _)
  refine ⟨.ref s1.heap.objs.size, upd H1 s1.heap.objs.size (.tup xs), I1.laid (t' := s1.toks) (fun b u e => Heap.get?_push_of_some _ e) (Nat.le_refl _) ?_, rfl, q _ hf⟩
  exact ⟨z, us, r, ⟨_, Heap.get?_push_size _ rfl, rfl, _, rfl⟩⟩
theorem pe_lst (h : PA X es t) : PE X (.List es pos) (tLst t) := by
  intro pins s σ H Q I hq
  refine wpAny_List_spliced (thn (h pos pins s σ H _ I hq) fun us s1 ⟨xs, H1, I1, r, z, q⟩ => ⟨by rw [← r.length]; exact z, ?_⟩)
  have hf : H1 s1.heap.objs.size = none := I1.hok.fresh (Nat.le_refl _)
  refine ⟨.ref s1.heap.objs.size, upd H1 s1.heap.objs.size (.lst xs), I1.laid (t' := s1.toks) (fun b u e => Heap.get?_push_of_some _ e) (Nat.le_refl _) ?_, rfl, q _ hf⟩
  exact ⟨z, us, 0, r, Heap.get?_push_size _ rfl⟩
end

abbrev Sp := List V → Hp → VK → XK → Prop
abbrev CXT := List Env → Hp → Shared → XK → Value → Shared → Prop

structure Env0 (P : Program) (w : World) (K : PySem.W.Frag) (mg : Str → Option Value) (base : Heap) (A : Around) (outer : List Env) (s : Shared) (H : Hp) : Prop where
  frames : A.frames = some outer
  mod : Mod K mg base
  bs : ∀ b o, base.get? b = some o → s.heap.get? b = some o ∧ H b = none
  bsz : base.objs.size ≤ s.heap.objs.size
  funs : s.heap.FunFrames base outer
  frf : ∀ b ∈ frs outer, H b = none
  hok : HOk P w H s.heap
  bare : AllBare s.gens
def CE (outer : List Env) (P : Program) (w : World) (H : Hp) (s : Shared) (Q : VK) (u : Value) (s' : Shared) : Prop :=
  ∃ v H', s'.os = s.os ∧ AllBare s'.gens ∧ Un (frs outer) [] H H' s.heap s'.heap ∧ HOk P w H' s'.heap ∧ RelV v u ∧ Q v H'
def CR (CX : CXT) (outer : List Env) (P : Program) (w : World) (H : Hp) (s : Shared) (Q : VK) (E : XK) (r : Result) (s' : Shared) : Prop :=
  match r with
  | .ok (.ret u) => CE outer P w H s Q u s'
  | .ok _ => False
  | .error e => CX outer H s E e s'
structure FnOk (P : Program) (w : World) (K : PySem.W.Frag) (mg : Str → Option Value) (base : Heap) (CX : CXT) (k : Nat) (f : Addr) (fd : FuncData) (ps : List Str) (sp : Sp) : Prop where
  len : ∀ vs H Q E, sp vs H Q E → vs.length = ps.length
  run : ∀ (A : Around) (outer : List Env) (s : Shared) (H : Hp) (args : Args) (us : List Value) (vs : List V) (Q : VK) (E : XK), Room k A → Env0 P w K mg base A outer s H → BindsTo s fd args (ps.zip us) → Vals vs us → sp vs H Q E →
    codeAny (model P w) A (.call (.ref f) args) (CR CX outer P w H s Q E) s
theorem Env0.make {P : Program} {w : World} {K : PySem.W.Frag} {mg : Str → Option Value} {base : Heap} {A : Around} {outer : List Env} {s : Shared} {H : Hp} (e : Env0 P w K mg base A outer s H) (C : Addr) (us : List Value) (kw : List (Str × Value)) :
    Env0 P w K mg base (A.under (.builtin "type.__call__" ⟨.ref C :: us, kw⟩)) outer s H := ⟨by first | exact e.frames | (simpa [Around.under, Code.envs, Code.isFrame, pushEnvs] using e.frames), e.mod, e.bs, e.bsz, e.funs, e.frf, e.hok, e.bare⟩
section
variable {X : Cx} {pins : List (Addr × Obj)} {σ : St} {H : Hp} {s s' : Shared}
theorem Inv.env0 (I : Inv X pins σ H s) : Env0 X.prog X.w X.K X.mg X.base X.A X.stack s H :=
  ⟨I.ok.frames, I.ok.mod, I.bs, Nat.le_trans I.ok.bsz I.sz, I.stack, I.stkFree, I.hok, I.bare⟩
theorem Inv.after {Q : VK} {u : Value} (I : Inv X pins σ H s) (h : CE X.stack X.prog X.w H s Q u s') : EP X pins σ Q u s' := by
  obtain ⟨v, H', os, bare, un, hok, r, q⟩ := h
  obtain ⟨hh, g, d, t, os'⟩ := s'
  obtain rfl : os' = s.os := os
  exact ⟨v, H', I.call (h' := hh) (g' := g) (d' := d) (t' := t) (ch := []) un hok bare (fun b z => absurd z (by simp)), r, q⟩
end

def tCall (sp : Sp) (dvs : List V) (E : XK) (t : TA) : TE := fun σ H Q => t σ H fun vs H1 => sp (vs ++ dvs) H1 Q E
def tMeth (C : Addr) (m : Str) (sp : Sp) (dvs : List V) (E : XK) (ta : TE) (t : TA) : TE := fun σ H Q => ta σ H fun x H1 => ∃ a dx fs, x = .ref a ∧ H1 a = some (.ins C dx fs) ∧ fs.lookup m = none ∧
  t σ H1 fun vs H2 => sp (x :: (vs ++ dvs)) H2 Q E
def tMake (C : Addr) (sp : Sp) (dvs : List V) (E : XK) (t : TA) : TE := fun σ H Q => t σ H fun vs H1 => ∀ x dx, H1 x = none → H1 dx = none → dx ≠ x →
  sp (.ref x :: (vs ++ dvs)) (upd (upd H1 dx (.own x)) x (.ins C dx [])) (fun v H2 => v = .non ∧ Q (.ref x) H2) E

def Binds (K : PySem.W.Frag) (fd : FuncData) (ps : List Str) (ds : List Value) : Prop :=
  ∀ (s : Shared) (us : List Value), K.In s.heap → (us ++ ds).length = ps.length → BindsTo s fd ⟨us, []⟩ (ps.zip (us ++ ds))
theorem Binds.all {K : PySem.W.Frag} {fd : FuncData} {ps : List Str} (h : ∀ us : List Value, us.length = ps.length → bindArgs fd ⟨us, []⟩ = pure (ps.zip us)) : Binds K fd ps [] := fun s us _ hl => by
  rw [List.append_nil] at hl ⊢
  exact .of_eq (h us hl)

def Passes (CX : CXT) (X : Cx) (E : XK) : Prop := ∀ (pins : List (Addr × Obj)) (σ : St) (H : Hp) (s : Shared) (e : Value) (s' : Shared), Inv X pins σ H s → CX X.stack H s E e s' → X.xe e s'

section
variable {X : Cx} {CX : CXT} {k : Nat} {f C : Addr} {fd : FuncData} {ps : List Str} {sp : Sp} {dvs : List V} {ds : List Value} {E : XK} {x m : Str} {p pos apos : Pos} {e o : Expr} {es : List Expr} {ta : TE} {t : TA}

structure Mk (K : PySem.W.Frag) (C f : Addr) : Prop where
  makes : PySem.W.makesIn K C = true
  init : PySem.W.findIn K (.ref C) "__init__" = some (some (.ref f))
  fn : PySem.W.isFn K (.ref f) = true
  kp : PySem.W.keepIn K (.ref C) = true

end

def PK (X : Cx) (kws : List Keyword) (t : TA) : Prop :=
  ∀ (pos : Pos) (pins : List (Addr × Obj)) (s : Shared) (σ : St) (H : Hp) (Q : List V → Hp → Prop), Inv X pins σ H s → t σ H Q → wpAny (model X.prog X.w) X.A (evalAll ((backToKw pos (keywordEach kws X.env)).map (·.2))) (AP X pins σ Q) X.xe s
section
variable {X : Cx} {CX : CXT} {k : Nat} {f C : Addr} {fd : FuncData} {ps ks : List Str} {sp : Sp} {E : XK} {x m : Str} {p pos apos kpos : Pos} {e o : Expr} {es : List Expr} {kws : List Keyword} {te ta : TE} {t tk : TA} {nm : Option Str}
structure KBinds (K : PySem.W.Frag) (fd : FuncData) (ps ks : List Str) (g : List Value → List Value → List Value) (gV : List V → List V → List V) : Prop where
  to : ∀ (s : Shared) (us ws : List Value), K.In s.heap → (g us ws).length = ps.length → BindsTo s fd ⟨us, ks.zip ws⟩ (ps.zip (g us ws))
  rel : ∀ {vs : List V} {us : List Value} {zs : List V} {ws : List Value}, Vals vs us → Vals zs ws → Vals (gV vs zs) (g us ws)
def tCallK (sp : Sp) (gV : List V → List V → List V) (E : XK) (t tk : TA) : TE := fun σ H Q => t σ H fun vs H1 => tk σ H1 fun zs H2 => sp (gV vs zs) H2 Q E
variable {g : List Value → List Value → List Value} {gV : List V → List V → List V}
end

structure FnScope (N P : List Str) (sc : Scope) : Prop where
  kind : sc.kind = .function
  co : sc.isCoroutine = false
  gen : sc.isGenerator = false
  nd : N.Nodup
  pre : N.take P.length = P
  par : ∀ x ∈ P, sc.names.lookup x = some .local ∨ sc.names.lookup x = some .cell
  nofree : ∀ y ∈ sc.names, y.2 ≠ .free

theorem bindL_out {kindOf : Str → Option NameKind} {x : Str} : ∀ {binds : List (Str × Value)} {m : Str → Option Value}, (∀ v, (x, v) ∉ binds) → bindL kindOf binds m x = m x
  | [], _, _ => rfl
  | (n, v) :: r, m, h => by
    unfold bindL
    rw [bindL_out fun w hw => h w (List.mem_cons_of_mem _ hw)]
    split
    · have : x ≠ n := by rintro rfl; exact h v List.mem_cons_self
      simp [this]
    · rfl
theorem bindC_out {kindOf : Str → Option NameKind} {x : Str} : ∀ {binds : List (Str × Value)} {m : Str → Option Value}, (∀ v, (x, v) ∉ binds) → bindC kindOf binds m x = m x
  | [], _, _ => rfl
  | (n, v) :: r, m, h => by
    unfold bindC
    rw [bindC_out fun w hw => h w (List.mem_cons_of_mem _ hw)]
    split
    · rfl
    · have : x ≠ n := by rintro rfl; exact h v List.mem_cons_self
      simp [this]
theorem bindL_get {kindOf : Str → Option NameKind} {x : Str} {v : Value} : ∀ {P : List Str} {vs : List Value} {i : Nat} {m : Str → Option Value}, P.Nodup → P[i]? = some x → vs[i]? = some v → kindOf x = some .local →
    bindL kindOf (P.zip vs) m x = some v
  | [], _, _, _, _, h, _, _ => by simp at h
  | _ :: _, [], _, _, _, _, h, _ => by simp at h
  | p :: P, w :: vs, 0, m, nd, h1, h2, hk => by
    simp at h1 h2; subst h1; subst h2
    show bindL kindOf ((p, w) :: P.zip vs) m p = _
    unfold bindL
    rw [bindL_out fun v hv => (List.nodup_cons.mp nd).1 (List.of_mem_zip hv).1, if_pos hk]
    simp
  | p :: P, w :: vs, i + 1, m, nd, h1, h2, hk => by
    show bindL kindOf ((p, w) :: P.zip vs) m x = _
    unfold bindL
    exact bindL_get (i := i) (List.nodup_cons.mp nd).2 (by simpa using h1) (by simpa using h2) hk
theorem bindC_get {kindOf : Str → Option NameKind} {x : Str} {v : Value} : ∀ {P : List Str} {vs : List Value} {i : Nat} {m : Str → Option Value}, P.Nodup → P[i]? = some x → vs[i]? = some v → kindOf x ≠ some .local →
    bindC kindOf (P.zip vs) m x = some v
  | [], _, _, _, _, h, _, _ => by simp at h
  | _ :: _, [], _, _, _, _, h, _ => by simp at h
  | p :: P, w :: vs, 0, m, nd, h1, h2, hk => by
    simp at h1 h2; subst h1; subst h2
    show bindC kindOf ((p, w) :: P.zip vs) m p = _
    unfold bindC
    rw [bindC_out fun v hv => (List.nodup_cons.mp nd).1 (List.of_mem_zip hv).1, if_neg hk]
    simp
  | p :: P, w :: vs, i + 1, m, nd, h1, h2, hk => by
    show bindC kindOf ((p, w) :: P.zip vs) m x = _
    unfold bindC
    exact bindC_get (i := i) (List.nodup_cons.mp nd).2 (by simpa using h1) (by simpa using h2) hk

def start (N : List Str) (vs : List V) : St := vs.map some ++ List.replicate (N.length - vs.length) none

def cxOf (CX : CXT) (P : Program) (w : World) (K : PySem.W.Frag) (mg : Str → Option Value) (base : Heap) (N : List Str) (qual : Str) (scope : Scope) (f : Addr) (cd : Value) (A : Around) (outer : List Env) (s : Shared) (H : Hp) (E : XK) : Cx where
  prog := P
  w := w
  K := K
  mg := mg
  base := base
  A := A.deeper (envOfC qual scope s.heap.objs.size f cd)
  N := N
  s₀ := s
  H₀ := H
  env := envOfC qual scope s.heap.objs.size f cd
  outer := outer
  stack := envOfC qual scope s.heap.objs.size f cd :: outer
  ex := []
  calm := true
  fn := fun _ => true
  pn := []
  xe := fun e s' => wpAny (model P w) (A.deeper (envOfC qual scope s.heap.objs.size f cd)) (leaving (envOfC qual scope s.heap.objs.size f cd) e) (fun _ s'' => CX outer H s E e s'') (fun e' s'' => CX outer H s E e' s'') s'

theorem cell_has {sc : Scope} {n : Nat} {x : Str} (h : sc.names.lookup x = some .cell) : ∃ c, (cellsFrom n sc.names []).lookup x = some c := by
  have q := PySem.W.cellsFrom_some sc.names n [] (.inl h)
  exact Option.isSome_iff_exists.mp q

theorem inv_start {CX : CXT} {P : Program} {w : World} {K : PySem.W.Frag} {mg : Str → Option Value} {base : Heap} {N ps : List Str} {qual : Str} {scope : Scope} {f : Addr} {cd : Value} {A : Around} {outer : List Env} {s s1 : Shared} {H : Hp} {E : XK} {us : List Value} {vs : List V}
    (S : FnScope N ps scope) (hd : A.handled = none) (e0 : Env0 P w K mg base A outer s H) (hl : vs.length = ps.length) (r : Vals vs us)
    (x : InCallC s s.heap.objs.size (bindL (envOfC qual scope s.heap.objs.size f cd).kindOf (ps.zip us) fun _ => none) (cellsFrom (s.heap.objs.size + 1) scope.names []) (bindC (envOfC qual scope s.heap.objs.size f cd).kindOf (ps.zip us) fun _ => none) s1) :
    Inv (cxOf CX P w K mg base N qual scope f cd A outer s H E) [] (start N vs) H s1 := by
  have hpl : ps.length ≤ N.length := by have := congrArg List.length S.pre; rw [List.length_take] at this; omega
  obtain ⟨h1, tk, rfl, hk⟩ := x.done
  have noA : ∀ b : Addr, b ∉ (cxOf CX P w K mg base N qual scope f cd A outer s H E).ex := fun b z => absurd (show b ∈ ([] : List Addr) from z) (by simp)
  refine ⟨⟨e0.mod, S.kind, rfl, rfl, Nat.le_refl _, fun y z c h1 h2 => ?_, fun y hy => ?_, fun y c _ h => ?_, fun _ => hd, Around.frames_deeper e0.frames, .inr ⟨rfl, rfl⟩, fun b z => absurd z (noA b), e0.bs, e0.bsz, fun b _ _ => noA b, fun b z => absurd z (noA b), e0.funs, e0.frf⟩,
    rfl, e0.bare, Un.kept hk, ⟨_, x.toInCall.ns, fun i y v h1 h2 h3 => ?_⟩, fun y c h => ⟨_, x.cell y c h⟩, e0.hok.fresh (Nat.le_refl _), fun y c h => ?_, fun p hp => absurd (show p ∈ ([] : List (Addr × Obj)) from hp) (by simp), e0.hok.kept hk, ?_⟩
  · exact name_of_addr x.apart (PySem.mem_of_lookup h1) (PySem.mem_of_lookup h2)
  · have hy : scope.names.lookup y = some .cell ∨ scope.names.lookup y = some .free := hy
    rcases hy with hy | hy
    · exact cell_has hy
    · exact absurd rfl (S.nofree _ (PySem.mem_of_lookup hy))
  · exact Nat.le_of_lt (x.above y c (PySem.mem_of_lookup h))
  · have hi : i < vs.length := by
      unfold start at h2
      by_cases hi : i < vs.length
      · exact hi
      · rw [List.getElem?_append_right (by simpa using hi)] at h2
        rw [List.getElem?_replicate] at h2
        split at h2 <;> cases h2
    have ha : vs[i]? = some v := by
      unfold start at h2
      rw [List.getElem?_append_left (by simpa using hi), List.getElem?_map] at h2
      cases e : vs[i]? with
      | none => rw [e] at h2; cases h2
      | some a => rw [e] at h2; cases h2; rfl
    obtain ⟨u, hu, rv⟩ := r.get ha
    have hp : ps[i]? = some y := by
      rw [← S.pre, List.getElem?_take_of_lt (by omega)]; exact h1
    have ndP : ps.Nodup := by rw [← S.pre]; exact S.nd.sublist (List.take_sublist _ _)
    refine ⟨u, rv, ?_⟩
    rcases S.par y (List.mem_of_getElem? hp) with k | k
    · exact .inl ⟨k, bindL_get ndP hp hu k⟩
    · obtain ⟨c, e⟩ := cell_has (n := s.heap.objs.size + 1) k
      refine .inr ⟨.inl k, c, e, ?_⟩
      have q := x.cell y c e
      rw [bindC_get ndP hp hu (by show scope.names.lookup y ≠ _; rw [k]; decide)] at q
      exact q
  · exact e0.hok.fresh (Nat.le_of_lt (x.above y c (PySem.mem_of_lookup h)))
  · unfold start
    show _ = N.length
    rw [List.length_append, List.length_map, List.length_replicate]
    omega

theorem fn_of {CX : CXT} {P : Program} {w : World} {K : PySem.W.Frag} {mg : Str → Option Value} {base : Heap} {k : Nat} {f : Addr} {name qual : Str} {params : Arguments} {body : List Stmt} {scope : Scope} {dV kV doc pm cdv ct oc : Value} {an od : Option Addr}
    {osl : Array (Option Value)} {N ps : List Str} {sp : Sp} (lk : K.lookup f = some ⟨oc, od, .func (PySem.W.fnOf name qual params body scope dV kV doc pm an cdv ct), osl⟩) (hcd : PySem.W.codeIn K cdv qual = true) (S : FnScope N ps scope)
    (len : ∀ vs H Q E, sp vs H Q E → vs.length = ps.length)
    (hbody : ∀ (A : Around) (outer : List Env) (s : Shared) (H : Hp) (vs : List V) (Q : VK) (E : XK), Room k (A.deeper (envOfC qual scope s.heap.objs.size f cdv)) → sp vs H Q E →
      ∃ t, PSs (cxOf CX P w K mg base N qual scope f cdv A outer s H E) body t ∧ t { nx := fun _ H' => Q .non H', rt := Q } (start N vs) H) :
    FnOk P w K mg base CX (k + 1) f (PySem.W.fnOf name qual params body scope dV kV doc pm an cdv ct) ps sp := by
  refine ⟨len, fun A outer s H args us vs Q E hr e0 hb r hsp => ?_⟩
  have hl := len _ _ _ _ hsp
  have KX : K.In s.heap := e0.mod.kin.keeps fun b o e => (e0.bs b o e).1
  have lim : s.heap.NoLimit := e0.mod.nolimit.keeps fun b o e => (e0.bs b o e).1
  have hkind : ∀ y ∈ ps.zip us, scope.names.lookup y.1 = some .local ∨ (scope.names.lookup y.1 = some .cell ∧ ((cellsFrom (s.heap.objs.size + 1) scope.names []).lookup y.1).isSome = true) := fun ⟨n, v⟩ hy => by
    rcases S.par n (List.of_mem_zip hy).1 with q | q
    · exact .inl q
    · exact .inr ⟨q, PySem.W.cellsFrom_some _ _ _ (.inl q)⟩
  refine codeAny_call_function hr.depth (KX _ _ lk) rfl S.co S.gen rfl (PySem.W.codeRec_of KX hcd) (hb _ _ _ _ ?_)
  refine wpAny_newFunctionEnv_cells S.kind hkind fun env he s1 x => ?_
  subst he
  refine ⟨lim.keeps x.toInCall.keep, codeAny_func ?_⟩
  obtain ⟨t, ht, hq⟩ := hbody A outer s H vs Q E (hr.deeper _) hsp
  have I : Inv (cxOf CX P w K mg base N qual scope f cdv A outer s H E) [] (start N vs) H s1 := inv_start S hr.hd e0 hl r x
  refine wpAny_mono (ht [] s1 (start N vs) H _ I hq) (fun fl s' hs => ?_) fun e s' hs => hs
  have fin : ∀ {σ' : St} {H' : Hp} {v : V} {u : Value}, Inv (cxOf CX P w K mg base N qual scope f cdv A outer s H E) [] σ' H' s' → RelV v u → Q v H' → CE outer P w H s Q u s' :=
    fun {σ' H' v u} J rv q => ⟨v, H', J.os, J.bare, J.base, J.hok, rv, q⟩
  cases fl with
  | ret u =>
    obtain ⟨v, σ', H', J, rv, q⟩ := hs
    exact fin J rv q
  | next =>
    obtain ⟨σ', H', J, q⟩ := hs
    exact fin (v := V.non) (u := Value.none) J rfl q
  | brk =>
    obtain ⟨_, _, _, q⟩ := hs
    exact False.elim q
  | cont =>
    obtain ⟨_, _, _, q⟩ := hs
    exact False.elim q
end L2

namespace L2
open PySem PySem.Spec PyProof.Rows
section
variable {X : Cx} {x : Str} {p pos : Pos} {e : Expr} {es : List Expr} {t : TA} {id T : String} {r : List V → Hp → VK → Prop}

def tCB (r : List V → Hp → VK → Prop) (t : TA) : TE := fun σ H Q => t σ H fun vs H1 => r vs H1 Q
theorem pe_callB (hc : CallR X (.builtin id) r) (hg : Gl X x) (hm : X.mg x = none) (hv : bootBuiltins x = some (.builtin id)) (ha : PA X (e :: es) t) (hn : x ≠ "__name__" := by decide) (hdb : (x == ("__debug__" : Str)) = false := by decide)
    (he : starEach (e :: es) X.env = (false, eval e X.env) :: starEach es X.env := by rfl) (hpl : (backTo pos (starEach es X.env)).any (·.1) = false := by rfl) : PE X (.Call (.Name x p) (e :: es) [] pos) (tCB r t) := by
  intro pins s σ H Q I h
  refine wpAny_Call_Name_kw (ld_blt I hg hm hv ?_ hn hdb)
  exact PyProof.Rows.callWith_builtin1 (thn (ha pos pins s σ H _ I h) fun us s1 hq67 => by obtain ⟨vs, H1, I1, r1, q1⟩ := hq67; exact hc pins s1 σ H1 vs us Q I1 r1 q1) he hpl
theorem pe_callTy (hc : CallR X (.type T) r) (hg : Gl X x) (hm : X.mg x = none) (hv : bootBuiltins x = some (.type T)) (ha : PA X (e :: es) t) (hn : x ≠ "__name__" := by decide) (hdb : (x == ("__debug__" : Str)) = false := by decide)
    (he : starEach (e :: es) X.env = (false, eval e X.env) :: starEach es X.env := by rfl) (hpl : (backTo pos (starEach es X.env)).any (·.1) = false := by rfl) : PE X (.Call (.Name x p) (e :: es) [] pos) (tCB r t) := by
  intro pins s σ H Q I h
  refine wpAny_Call_Name_kw (ld_blt I hg hm hv ?_ hn hdb)
  exact PyProof.Rows.callWith_type1 (thn (ha pos pins s σ H _ I h) fun us s1 hq68 => by obtain ⟨vs, H1, I1, r1, q1⟩ := hq68; exact hc pins s1 σ H1 vs us Q I1 r1 q1) he hpl
end
end L2

namespace HT
open PySem PyProof.Rows

def lexLt : List Int → List Int → Bool
  | [], [] => false
  | [], _ :: _ => true
  | _ :: _, [] => false
  | x :: xs, y :: ys => if x = y then lexLt xs ys else decide (x < y)
section
open PySem.SeqAt
open PySem.AutoSeq1 (wpAny_loadPart')
open PySem.MeetsSeq PySem.MeetsSeq2 PySem.MeetsSeq3

end

section
variable {prog : Program} {w : World} {A : Around} {E : Value → Shared → Prop} {s : Shared}

def sIx (n d : Nat) : Option Int → Nat
  | none => d
  | some v => if v < 0 then (v + (n : Int)).toNat else min v.toNat n
end
end HT

namespace L2
open PySem PySem.Spec PyProof.Rows

abbrev TO := St → Hp → (Option Int → Hp → Prop) → Prop
def PO (X : Cx) (e : Option Expr) (t : TO) : Prop :=
  ∀ (pins : List (Addr × Obj)) (s : Shared) (σ : St) (H : Hp) (Q : Option Int → Hp → Prop), Inv X pins σ H s → t σ H Q →
    wpAny (model X.prog X.w) X.A (evalPart e X.env) (fun u s' => ∃ o H', Inv X pins σ H' s' ∧ IsPart u o ∧ Q o H') X.xe s
def tNoPart : TO := fun _ H Q => Q none H
def tPart (t : TE) : TO := fun σ H Q => t σ H fun x H1 => ∃ i, x = .int i ∧ Q (some i) H1

section
variable {X : Cx} {e : Expr} {te : TE} {lo hi : Option Expr} {tl th : TO} {pos p2 : Pos}

theorem po_none : PO X none tNoPart := by
  intro pins s σ H Q I h
  rw [evalPart_none]
  exact wpAny_pure ⟨none, H, I, .none, h⟩
theorem po_some (h : PE X e te) : PO X (some e) (tPart te) := by
  intro pins s σ H Q I hw
  rw [evalPart_some]
  refine thn (h pins s σ H _ I hw) fun u s1 hq69 => ?_
  obtain ⟨x, H1, I1, r1, q1⟩ := hq69
  obtain ⟨i, rfl, q⟩ := q1
  obtain ⟨t, rfl⟩ := r1
  exact ⟨some i, H1, I1, .int i t, q⟩

def SlR (X : Cx) (r : V → Option Int → Option Int → Hp → VK → Prop) : Prop :=
  ∀ (pins : List (Addr × Obj)) (s : Shared) (σ : St) (H : Hp) (x : V) (v vl vu : Value) (lo hi : Option Int) (sl : Addr) (Q : VK), Inv X pins σ H s → RelV x v → s.heap.IsSliceOf sl vl vu .none → IsPart vl lo → IsPart vu hi → r x lo hi H Q →
    ∃ T id, typeLookup (.type T) "__getitem__" = pure (some (.builtin id)) ∧ s.TypeIs v T ∧ wpAny (model X.prog X.w) X.A (getItem v (.ref sl)) (EP X pins σ Q) X.xe s
def tSl (r : V → Option Int → Option Int → Hp → VK → Prop) (te : TE) (tl th : TO) : TE := fun σ H Q => te σ H fun x H1 => tl σ H1 fun l H2 => th σ H2 fun u H3 => r x l u H3 Q
theorem pe_slice {r : V → Option Int → Option Int → Hp → VK → Prop} (hr : SlR X r) (he : PE X e te) (hl : PO X lo tl) (hu : PO X hi th) : PE X (.Subscript e (.Slice lo hi none p2) pos) (tSl r te tl th) := by
  intro pins s σ H Q I h
  refine Subscript_ (thn (he pins s σ H _ I h) fun v s1 hq70 => ?_)
  obtain ⟨x, H1, I1, r1, q1⟩ := hq70
  refine wpAny_Slice (thn (hl pins s1 σ H1 _ I1 q1) fun vl s2 ⟨l, H2, I2, pl, q2⟩ => thn (hu pins s2 σ H2 _ I2 q2) fun vu s3 ⟨u, H3, I3, pu, q3⟩ => ?_)
  rw [evalPart_none]
  refine wpAny_pure ?_
  have I4 : Inv X pins σ H3 { s3 with heap := s3.heap.push { cls := .type "slice", data := .fields #[vl, vu, .none] } } := I3.kept (t' := s3.toks) fun b ob q => Heap.get?_push_of_some _ q
  obtain ⟨T, id, hT, ht, hg⟩ := hr pins { s3 with heap := s3.heap.push { cls := .type "slice", data := .fields #[vl, vu, .none] } } σ H3 x v vl vu l u s3.heap.objs.size Q I4 r1 (Heap.IsSliceOf.new ..) pl pu q3
  show wpAny (model X.prog X.w) X.A (subscriptTail e (.Slice lo hi none p2) v (.ref s3.heap.objs.size)) (EP X pins σ Q) X.xe { s3 with heap := s3.heap.push { cls := .type "slice", data := .fields #[vl, vu, .none] } }
  exact tail_any (ops := [.ref s3.heap.objs.size, v]) ht hT hg (by with_unfolding_all rfl)

def cutV (xs : List V) (lo hi : Option Int) : List V := (xs.drop (HT.sIx xs.length 0 lo)).take (HT.sIx xs.length xs.length hi - HT.sIx xs.length 0 lo)
theorem cutV_length (xs : List V) (lo hi : Option Int) : (cutV xs lo hi).length ≤ xs.length := by
  unfold cutV
  rw [List.length_take, List.length_drop]
  omega
def rSlT (K : PySem.W.Frag) : V → Option Int → Option Int → Hp → VK → Prop := fun x lo hi H Q => ∃ a xs, x = .ref a ∧ SqT K H a xs ∧
  ¬ (HT.sIx xs.length 0 lo = 0 ∧ HT.sIx xs.length xs.length hi = xs.length) ∧ ∀ p, H p = none → Q (.ref p) (upd H p (.tup (cutV xs lo hi)))
def rLtT (K : PySem.W.Frag) : R2 := fun x y H Q => ∃ a b ns ms, x = .ref a ∧ y = .ref b ∧ SqT K H a (ns.map V.int) ∧ SqT K H b (ms.map V.int) ∧ Q (.bl (HT.lexLt ns ms)) H
def rCatT (K : PySem.W.Frag) : R2 := fun x y H Q => ∃ a b xs ys, x = .ref a ∧ y = .ref b ∧ SqT K H a xs ∧ SqT K H b ys ∧ xs ≠ [] ∧ xs.length + ys.length ≤ sizeLine ∧
  (ys = [] → Q (.ref a) H) ∧ (ys ≠ [] → ∀ p, H p = none → Q (.ref p) (upd H p (.tup (xs ++ ys))))
end
end L2

namespace L2
open PySem PySem.Spec PyProof.Rows

def ixN (n : Nat) (i : Int) : Option Nat := if 0 ≤ i then (if i < n then some i.toNat else none) else if -(n : Int) ≤ i then some (i + n).toNat else none
def atI {α : Type} (xs : List α) (i : Int) : Option α := (ixN xs.length i).bind fun j => xs[j]?
theorem ixN_seq {n : Nat} {i : Int} {j : Nat} (h : ixN n i = some j) : seqIndex? i n = some j ∧ j < n ∧ -(n : Int) ≤ i ∧ i < n := by
  unfold ixN at h
  by_cases h0 : 0 ≤ i
  · rw [if_pos h0] at h
    by_cases h1 : i < n
    · rw [if_pos h1] at h
      have e : i.toNat = j := Option.some.inj h
      exact ⟨by rw [seqIndex_of h0 h1, e], by omega, by omega, h1⟩
    · rw [if_neg h1] at h; cases h
  · rw [if_neg h0] at h
    by_cases h1 : -(n : Int) ≤ i
    · rw [if_pos h1] at h
      have e : (i + n).toNat = j := Option.some.inj h
      exact ⟨by rw [seqIndex_neg (by omega) h1, e], by omega, h1, by omega⟩
    · rw [if_neg h1] at h; cases h
theorem atI_get {α : Type} {xs : List α} {i : Int} {v : α} (h : atI xs i = some v) : ∃ j, seqIndex? i xs.length = some j ∧ xs[j]? = some v ∧ j < xs.length ∧ -(xs.length : Int) ≤ i ∧ i < xs.length := by
  unfold atI at h
  cases e : ixN xs.length i with
  | none => rw [e] at h; cases h
  | some j =>
    rw [e] at h
    obtain ⟨h1, h2, h3, h4⟩ := ixN_seq e
    exact ⟨j, h1, h, h2, h3, h4⟩
theorem atI_nat {α : Type} {xs : List α} {j : Nat} {v : α} (h : xs[j]? = some v) : atI xs (j : Int) = some v := by
  have hj : j < xs.length := (List.getElem?_eq_some_iff.mp h).1
  have e : ixN xs.length (j : Int) = some j := by
    unfold ixN
    rw [if_pos (by omega), if_pos (by omega)]; simp
  unfold atI; rw [e]; exact h
def PlainIx (b : Expr) : Prop := ∀ o i, subscripted b false o i = operate [o, i] (getItem o i)
def IxR (X : Cx) (r : R2) : Prop :=
  ∀ (value slice : Expr) (pins : List (Addr × Obj)) (s : Shared) (σ : St) (H : Hp) (x y : V) (v u : Value) (Q : VK), Inv X pins σ H s → RelV x v → RelV y u → r x y H Q →
    subscripted slice false v u = operate [v, u] (getItem v u) → wpAny (model X.prog X.w) X.A (subscriptTail value slice v u) (EP X pins σ Q) X.xe s
def MtR (X : Cx) (id : String) (r : V → List V → Hp → VK → Prop) : Prop :=
  ∀ (pins : List (Addr × Obj)) (s : Shared) (σ : St) (H : Hp) (x : V) (xs : List V) (v : Value) (us : List Value) (Q : VK), Inv X pins σ H s → RelV x v → Vals xs us → r x xs H Q →
    wpAny (model X.prog X.w) X.A (call (.builtin id) (v :: us)) (EP X pins σ Q) X.xe s
section
variable {X : Cx} {a b : Expr} {ta tb : TE} {pos : Pos}
theorem pe_ix {r : R2} (hr : IxR X r) (ha : PE X a ta) (hb : PE X b tb) (hs : PlainIx b) : PE X (.Subscript a b pos) (tOp r ta tb) := by
  intro pins s σ H Q I h
  exact Subscript_ (binT ha hb I h fun v u s2 x y H2 I2 rx ry q => hr a b pins s2 σ H2 x y v u Q I2 rx ry q (hs _ _))

def rIxL (K : PySem.W.Frag) : R2 := fun x y H Q => ∃ p xs i v, x = .ref p ∧ y = .int i ∧ SqL K H p xs ∧ atI xs i = some v ∧ Q v H
def rIxT (K : PySem.W.Frag) : R2 := fun x y H Q => ∃ p xs i v, x = .ref p ∧ y = .int i ∧ SqT K H p xs ∧ atI xs i = some v ∧ Q v H
def rIxS : R2 := fun x y H Q => ∃ z i c, x = .str z ∧ y = .int i ∧ z.length ≤ sizeLine ∧ atI z.cps.toList i = some c ∧ Q (.str ⟨#[c]⟩) H
theorem ix_list : IxR X (rIxL X.K) := by
  intro value slice pins s σ H x y v u Q I rx ry h hs
  obtain ⟨p, xs, i, z, rfl, rfl, hq, he, q⟩ := h
  cases rx
  obtain ⟨t, rfl⟩ := ry
  obtain ⟨its, r, pl, hz⟩ := I.list hq
  obtain ⟨j, h1, h2, h3, h4, h5⟩ := atI_get he
  obtain ⟨w, ew, rw'⟩ := r.get h2
  have hl := r.length
  have hn := line63
  have fin : EP X pins σ Q w s := ⟨z, H, I, rw', q⟩
  by_cases h0 : 0 ≤ i
  · have hj : i.toNat = j := by
      rw [seqIndex_of h0 h5] at h1
      exact Option.some.inj h1
    exact item_listR pl.isList h0 (by omega) (by rw [hj]; simpa using ew) fin hs
  · have hj : (i + (its.toArray.size : Int)).toNat = j := by
      rw [seqIndex_neg (by omega) h4] at h1
      rw [List.size_toArray, ← hl]
      exact Option.some.inj h1
    exact subscriptTail_builtinR (x := w) pl.isList.typeIs slot_list_getitem.lookup
      (wpAny_getItem_list_neg (Q := fun r s' => r = w ∧ EP X pins σ Q r s') pl.isList (by omega) (by rw [List.size_toArray] <;> omega) (by omega) (by rw [hj]; simpa using ew) ⟨rfl, fin⟩) hs
theorem ix_tup : IxR X (rIxT X.K) := by
  intro value slice pins s σ H x y v u Q I rx ry h hs
  obtain ⟨p, xs, i, z, rfl, rfl, hq, he, q⟩ := h
  cases rx
  obtain ⟨t, rfl⟩ := ry
  obtain ⟨its, r, pl, hz⟩ := I.tuple hq
  obtain ⟨j, h1, h2, h3, h4, h5⟩ := atI_get he
  obtain ⟨w, ew, rw'⟩ := r.get h2
  have hl := r.length
  have hn := line63
  have fin : EP X pins σ Q w s := ⟨z, H, I, rw', q⟩
  exact subscriptTail_builtinR (x := w) pl.typeIs slot_tuple_getitem.lookup
    (getItem_tuple (j := j) (Q := fun r s' => r = w ∧ EP X pins σ Q r s') pl (by omega) (by omega) (by rw [List.size_toArray, ← hl]; exact h1) (by simpa using ew) ⟨rfl, fin⟩) hs
theorem ix_str : IxR X rIxS := by
  intro value slice pins s σ H x y v u Q I rx ry h hs
  obtain ⟨z, i, c, rfl, rfl, hz, he, q⟩ := h
  obtain ⟨t, rfl⟩ := rx
  obtain ⟨t', rfl⟩ := ry
  obtain ⟨j, h1, h2, h3, h4, h5⟩ := atI_get he
  have hl : z.cps.toList.length = z.length := by simp [Str.length]
  rw [hl] at h1 h4 h5
  have hn := line63
  exact tail_any (typeIs_str s z t) slot_str_getitem.lookup (getItem_str (c := c) (by
    have e1 : decide (i < -(2 ^ 63 : Int)) = false := decide_eq_false (by omega)
    have e2 : decide (i ≥ 2 ^ 63) = false := decide_eq_false (by omega)
    rw [e1, e2, Bool.or_false]) (by rw [h1]; simpa using h2) ⟨.str ⟨#[c]⟩, H, I.tok _, ⟨_, rfl⟩, q⟩) hs
def rIx (K : PySem.W.Frag) : R2 := fun x y H Q => rIxL K x y H Q ∨ rIxT K x y H Q ∨ rIxS x y H Q
def rSetL : V → V → V → Hp → (Hp → Prop) → Prop := fun o i v H Q => ∃ p xs k j, o = .ref p ∧ i = .int k ∧ H p = some (.lst xs) ∧ ixN xs.length k = some j ∧ Q (upd H p (.lst (xs.set j v)))
theorem slice_bounds (lo hi : Option Int) (n : Nat) : (sliceBounds lo hi none n).1 = ((HT.sIx n 0 lo : Nat) : Int) ∧ (sliceBounds lo hi none n).2.1 = ((HT.sIx n n hi : Nat) : Int) ∧ (sliceBounds lo hi none n).2.2 = 1 := by
  refine ⟨?_, ?_, rfl⟩
  · cases lo with
    | none => simp [sliceBounds, HT.sIx]
    | some i =>
      simp only [sliceBounds, HT.sIx, Option.getD_none, show (1 : Int) > 0 by decide, if_true]
      by_cases h : i < 0
      · simp only [h, if_true] <;> omega
      · simp only [h, if_false] <;> omega
  · cases hi with
    | none => simp [sliceBounds, HT.sIx]
    | some i =>
      simp only [sliceBounds, HT.sIx, Option.getD_none, show (1 : Int) > 0 by decide, if_true]
      by_cases h : i < 0
      · simp only [h, if_true] <;> omega
      · simp only [h, if_false] <;> omega
theorem slicePick_cut (its : List Value) (lo hi : Option Int) : slicePick its.toArray lo hi none = ((its.drop (HT.sIx its.length 0 lo)).take (HT.sIx its.length its.length hi - HT.sIx its.length 0 lo)).toArray := by
  obtain ⟨h1, h2, h3⟩ := slice_bounds lo hi its.toArray.size
  unfold slicePick
  rw [h1, h2, h3]
  simp only [sliceRange_one, pick_run, List.size_toArray] <;> rfl
def rSlL (K : PySem.W.Frag) : V → Option Int → Option Int → Hp → VK → Prop := fun x lo hi H Q => ∃ a xs, x = .ref a ∧ SqL K H a xs ∧ ∀ p, H p = none → Q (.ref p) (upd H p (.lst (cutV xs lo hi)))
theorem sl_list : SlR X (rSlL X.K) := by
  intro pins s σ H x v vl vu lo hi sl Q I rx hs pl pu h
  obtain ⟨a, xs, rfl, hx, q⟩ := h
  cases rx
  obtain ⟨its, r, ht, hz⟩ := I.list hx
  have hlen := r.length
  refine ⟨"list", _, slot_list_getitem.lookup, ht.isList.typeIs, ?_⟩
  refine wpAny_getItem_list_slice ht.isList hs pl pu .none (by simp) ?_ (by rw [List.size_toArray] <;> omega)
  rw [slicePick_cut, ← hlen]
  refine ⟨.ref s.heap.objs.size, _, I.laid (t' := s.toks) (o := .lst (cutV xs lo hi)) (fun b ob q => Heap.get?_push_of_some _ q) (Nat.le_refl _) ?_, rfl, q _ (I.hok.fresh (Nat.le_refl _))⟩
  exact ⟨Nat.le_trans (cutV_length xs lo hi) hz, _, 0, (r.drop (HT.sIx xs.length 0 lo)).take (HT.sIx xs.length xs.length hi - HT.sIx xs.length 0 lo), Heap.get?_push_size _ rfl⟩

def flatV : V → Bool
  | .non => true
  | .bl _ => true
  | .int _ => true
  | .str _ => true
  | _ => false
def eqV : V → V → Bool
  | .non, .non => true
  | .bl a, .bl b => a == b
  | .bl a, .int b => (if a then 1 else 0) == b
  | .int a, .bl b => a == (if b then 1 else 0)
  | .int a, .int b => a == b
  | .str a, .str b => a == b
  | _, _ => false
def eqU (x : V) (u : Value) : Bool := match u with
  | .none => eqV .non x
  | .bool b => eqV (.bl b) x
  | .int i _ => eqV (.int i) x
  | .str z _ => eqV (.str z) x
  | _ => false
def inV (x : V) (xs : List V) : Bool := xs.any fun y => eqV y x
def rIn (K : PySem.W.Frag) (neg : Bool) : R2 := fun x y H Q => ∃ p xs, y = .ref p ∧ (SqL K H p xs ∨ SqT K H p xs) ∧ flatV x = true ∧ xs.all flatV = true ∧ Q (.bl (if neg then !inV x xs else inV x xs)) H
theorem call_len_seq : CallR X (.builtin "len") (fun xs H Q => ∃ p ys, xs = [.ref p] ∧ (SqL X.K H p ys ∨ SqT X.K H p ys) ∧ Q (.int ys.length) H) := by
  intro pins s σ H xs us Q I r h
  obtain ⟨p, ys, rfl, hq, q⟩ := h
  obtain ⟨u, rfl, rx⟩ := vals1 r
  cases rx
  have hn := line63
  rcases hq with hq | hq
  · obtain ⟨its, r', pl, hz⟩ := I.list hq
    have hlen := r'.length
    exact Calls.call_len_list pl.isList (by simp only [List.size_toArray] <;> omega) ⟨.int ys.length, H, I.tok _, ⟨s.toks + 1, by rw [List.size_toArray, hlen]⟩, q⟩
  · obtain ⟨its, r', pl, hz⟩ := I.tuple hq
    have hlen := r'.length
    exact len_tuple pl (by simp only [List.size_toArray] <;> omega) ⟨.int ys.length, H, I.tok _, ⟨s.toks + 1, by rw [List.size_toArray, hlen]⟩, q⟩
theorem call_len_str : CallR X (.builtin "len") (fun xs H Q => ∃ z, xs = [.str z] ∧ z.length ≤ sizeLine ∧ Q (.int z.length) H) := by
  intro pins s σ H xs us Q I r h
  obtain ⟨z, rfl, hz, q⟩ := h
  obtain ⟨u, rfl, t, rfl⟩ := vals1 r
  have hn := line63
  exact len_str (by omega) ⟨.int z.length, H, I.tok _, ⟨_, rfl⟩, q⟩
def tyV (K : PySem.W.Frag) (T : String) (x : V) (H : Hp) : Prop := match x with
  | .str _ => T = "str"
  | .int _ => T = "int"
  | .ref p => (T = "list" ∧ ∃ xs, SqL K H p xs) ∨ (T = "tuple" ∧ ∃ o, K.lookup p = some o ∧ o.cls = .type "tuple" ∧ o.dict = none) ∨
      (T = "dict" ∧ ((∃ kvs, H p = some (.dK kvs)) ∨ ∃ kvs, H p = some (.dT kvs))) ∨ (T = "set" ∧ ∃ S n, H p = some (.set S n))
  | _ => False
theorem tyV_is {pins : List (Addr × Obj)} {σ : St} {H : Hp} {s : Shared} {T : String} {x : V} {v : Value} (I : Inv X pins σ H s) (r : RelV x v) (ty : tyV X.K T x H) :
    s.TypeIs v T ∧ ∀ a, v = .ref a → ∃ ob, s.heap.get? a = some ob ∧ ob.dict = none := by
  cases x with
  | str z =>
    obtain ⟨t, rfl⟩ := r
    cases (show T = "str" from ty)
    exact ⟨typeIs_str s z t, fun _ e => nomatch e⟩
  | int i =>
    obtain ⟨t, rfl⟩ := r
    cases (show T = "int" from ty)
    exact ⟨typeIs_int s i t, fun _ e => nomatch e⟩
  | ref p =>
    cases r
    rcases ty with ⟨rfl, xs, hq⟩ | ⟨rfl, o, hk, hc, hd⟩ | ⟨rfl, hk⟩ | ⟨rfl, S, n, hk⟩
    · obtain ⟨its, _, pl, _⟩ := I.list hq
      refine ⟨pl.isList.typeIs, fun a e => ?_⟩
      cases e
      obtain ⟨o, n, e, c, hd, _⟩ := pl
      exact ⟨o, e, hd⟩
    · refine ⟨⟨o, I.kIn p o hk, hc⟩, fun a e => ?_⟩
      cases e
      exact ⟨o, I.kIn _ o hk, hd⟩
    · have z : ∃ o, s.heap.get? p = some o ∧ o.ExactDict := by
        rcases hk with ⟨kvs, hk⟩ | ⟨kvs, hk⟩
        · obtain ⟨_, _, _, _, o, _, _, e, ex, _⟩ := I.hok p _ hk
          exact ⟨o, e, ex⟩
        · obtain ⟨_, _, _, _, o, _, _, e, ex, _⟩ := I.hok p _ hk
          exact ⟨o, e, ex⟩
      obtain ⟨o, e, ex⟩ := z
      refine ⟨⟨o, e, ex.1⟩, fun a e2 => ?_⟩
      cases e2
      exact ⟨o, e, ex.2.1⟩
    · obtain ⟨o, _, _, _, e, ex, _⟩ := I.hok p _ hk
      refine ⟨⟨o, e, ex.1⟩, fun a e2 => ?_⟩
      cases e2
      exact ⟨o, e, ex.2.1⟩
  | _ => exact False.elim ty
def tBM0 (K : PySem.W.Frag) (T : String) (r : V → List V → Hp → VK → Prop) (to : TE) : TE := fun σ H Q => to σ H fun x H1 => tyV K T x H1 ∧ r x [] H1 Q
def tBM (K : PySem.W.Frag) (T : String) (r : V → List V → Hp → VK → Prop) (to : TE) (t : TA) : TE := fun σ H Q => to σ H fun x H1 => tyV K T x H1 ∧ t σ H1 fun xs H2 => r x xs H2 Q
variable {o e : Expr} {es : List Expr} {to : TE} {t : TA} {name : Str} {apos cpos : Pos} {T id : String} {r : V → List V → Hp → VK → Prop}
theorem pe_bm0 (pa : PlainAttrs T) (slot : Slot T name id) (hty : typeOf (.builtin id) = pure (.type "method_descriptor")) (hm : MtR X id r) (ho : PE X o to)
    (hbase : attributeBase o name X.env (eval o X.env) = eval o X.env := by rfl) (hline : (apos.endLine == cpos.line) = true := by rfl) : PE X (.Call (.Attribute o name apos) [] [] cpos) (tBM0 X.K T r to) := by
  intro pins s σ H Q I h
  refine wpAny_Call_method0_late hbase hline (thn (ho pins s σ H _ I h) fun v s1 hq73 => ?_)
  obtain ⟨x, H1, I1, r1, ty, q1⟩ := hq73
  obtain ⟨h1, h2⟩ := tyV_is I1 r1 ty
  exact ⟨T, id, pa, slot, hty, h1, h2, Calls.callWith_builtin rfl (PySem.evalArgs_none (hm pins s1 σ H1 x [] v [] Q I1 r1 .nil q1))⟩
theorem pe_bm (pa : PlainAttrs T) (slot : Slot T name id) (hty : typeOf (.builtin id) = pure (.type "method_descriptor")) (hm : MtR X id r) (ho : PE X o to) (ha : PA X (e :: es) t)
    (hbase : attributeBase o name X.env (eval o X.env) = eval o X.env := by rfl)
    (hfew : ((backTo cpos (starEach (e :: es) X.env)).all (fun x => !x.1) && (backToKw cpos (keywordEach [] X.env)).all (fun x => x.1.isSome)
      && decide ((e :: es).length + ([] : List Keyword).length + (if ([] : List Keyword).isEmpty then 0 else 1) < 30)) = true := by rfl)
    (hline : (apos.endLine == cpos.line) = true := by rfl) (hs : starEach (e :: es) X.env = (false, eval e X.env) :: starEach es X.env := by rfl) (hplain : (backTo cpos (starEach es X.env)).any (·.1) = false := by rfl) :
    PE X (.Call (.Attribute o name apos) (e :: es) [] cpos) (tBM X.K T r to t) := by
  intro pins s σ H Q I h
  refine wpAny_Call_method_late hbase hfew hline rfl (thn (ho pins s σ H _ I h) fun v s1 hq74 => ?_)
  obtain ⟨x, H1, I1, r1, ty, q1⟩ := hq74
  obtain ⟨h1, h2⟩ := tyV_is I1 r1 ty
  refine ⟨T, id, pa, slot, hty, h1, h2, ?_⟩
  have hA := ha cpos pins s1 σ H1 _ I1 q1
  rw [hs] at hA ⊢
  refine Calls.callWith_builtin (by show (false || (backTo cpos (starEach es X.env)).any (·.1)) = false; rw [hplain] <;> rfl) (Calls.evalArgs_plain ?_)
  exact thn hA fun us s2 hq75 => by obtain ⟨vs, H2, I2, r2, q2⟩ := hq75; exact hm pins s2 σ H2 x vs v us Q I2 r1 r2 q2
end
end L2

namespace L2
open PySem PySem.Spec PyProof.Rows

def MtM (X : Cx) (id : String) (r : V → List V → Hp → VK → Prop) : Prop :=
  ∀ (pins : List (Addr × Obj)) (s : Shared) (σ : St) (H : Hp) (x : V) (xs : List V) (v : Value) (us : List Value) (Q : VK), Inv X pins σ H s → RelV x v → Vals xs us → r x xs H Q →
    wpAny (model X.prog X.w) X.A (call (.builtin id) (v :: us)) (EP X pins σ Q) X.xe s

theorem Vals.one : ∀ {x : V} {us : List Value}, Vals [x] us → ∃ u, us = [u] ∧ RelV x u
  | _, _, .cons r .nil => ⟨_, rfl, r⟩
section
variable {X : Cx} {pins : List (Addr × Obj)} {σ : St} {H : Hp} {s : Shared} {l b : Addr} {xs ys zs : List V}

theorem Inv.lset {its its' : List Value} {n : Nat} {f : Array Value → Array Value} {t' : Nat} (I : Inv X pins σ H s) (hH : H l = some (.lst xs))
    (e : s.heap.get? l = some { cls := .type "list", data := .seq its.toArray n }) (hf : f its.toArray = its'.toArray) (hv : Vals ys its') (hz : ys.length ≤ sizeLine) :
    Inv X pins σ (upd H l (.lst ys)) { s with heap := s.heap.update l (Obj.mapSeq f), toks := t' } := by
  have q := PySem.IsL.update e f
  rw [hf] at q
  refine I.write (x := l) (e := l) (by rw [hH]; exact trivial) (.inl rfl) (fun b' u hb hu => (Heap.get?_update_other s.heap (Obj.mapSeq f) (Ne.symm hb)).trans hu) ⟨_, q⟩ ?_
  exact ⟨hz, its', _, hv, q⟩
theorem Inv.lnew {its : List Value} {t' : Nat} (I : Inv X pins σ H s) (hv : Vals ys its) (hz : ys.length ≤ sizeLine) :
    Inv X pins σ (upd H s.heap.objs.size (.lst ys)) { s with heap := s.heap.push { cls := .type "list", data := .seq its.toArray }, toks := t' } :=
  I.laid (fun _ _ q => Heap.get?_push_of_some _ q) (Nat.le_refl _) ⟨hz, its, 0, hv, Heap.get?_push_size _ rfl⟩
theorem Inv.fresh (I : Inv X pins σ H s) : H s.heap.objs.size = none := I.hok.fresh (Nat.le_refl _)
theorem Inv.lstM (I : Inv X pins σ H s) (hH : H l = some (.lst xs)) : xs.length ≤ sizeLine ∧ ∃ (its : List Value) (n : Nat), Vals xs its ∧ xs.length = its.length ∧ s.heap.get? l = some { cls := .type "list", data := .seq its.toArray n } := by
  obtain ⟨z, its, n, r, e⟩ := I.hok l _ hH
  exact ⟨z, its, n, r, r.length, e⟩

end

section
variable {X : Cx}

def rAppend : V → List V → Hp → VK → Prop := fun x vs H Q => ∃ l xs y, x = .ref l ∧ vs = [y] ∧ H l = some (.lst xs) ∧ xs.length < sizeLine ∧ Q .non (upd H l (.lst (xs ++ [y])))
theorem mt_append : MtM X "list.append" rAppend := by
  intro pins s σ H x vs v us Q I rx rv h
  obtain ⟨l, xs, y, rfl, rfl, hH, hz, q⟩ := h
  cases rx
  obtain ⟨u, rfl, ru⟩ := rv.one
  obtain ⟨z, its, n, r, hl, e⟩ := I.lstM hH
  refine call_meets F.slot_list_append ⟨_, e, rfl⟩ F.entry_list_append (F.args_list_append_2 _ _) (PySem.list_append l its.toArray n u (by rw [List.size_toArray]; omega)) ⟨e, ?_⟩
  refine ⟨.non, _, I.lset (its' := its ++ [u]) hH e (by simp) (r.append (.cons ru .nil)) ?_, rfl, q⟩
  rw [List.length_append, List.length_singleton]
  omega

def rExtend : V → List V → Hp → VK → Prop := fun x vs H Q => ∃ l b xs zs, x = .ref l ∧ vs = [.ref b] ∧ H l = some (.lst xs) ∧ H b = some (.lst zs) ∧ xs.length + zs.length ≤ sizeLine ∧ Q .non (upd H l (.lst (xs ++ zs)))
def rPop : V → List V → Hp → VK → Prop := fun x vs H Q => ∃ l xs y, x = .ref l ∧ vs = [] ∧ H l = some (.lst xs) ∧ xs[xs.length - 1]? = some y ∧ Q y (upd H l (.lst xs.dropLast))
def rPopAt : V → List V → Hp → VK → Prop := fun x vs H Q => ∃ l xs i k y, x = .ref l ∧ vs = [.int i] ∧ H l = some (.lst xs) ∧ -(2 ^ 63) ≤ i ∧ i < 2 ^ 63 ∧ seqIndex? i xs.length = some k ∧ xs[k]? = some y ∧ Q y (upd H l (.lst (xs.eraseIdx k)))
def rReverse : V → List V → Hp → VK → Prop := fun x vs H Q => ∃ l xs, x = .ref l ∧ vs = [] ∧ H l = some (.lst xs) ∧ Q .non (upd H l (.lst xs.reverse))
def rClear : V → List V → Hp → VK → Prop := fun x vs H Q => ∃ l xs, x = .ref l ∧ vs = [] ∧ H l = some (.lst xs) ∧ Q .non (upd H l (.lst []))
def rCat : R2 := fun x y H Q => ∃ l b xs zs, x = .ref l ∧ y = .ref b ∧ H l = some (.lst xs) ∧ H b = some (.lst zs) ∧ xs.length + zs.length ≤ sizeLine ∧ ∀ p, H p = none → Q (.ref p) (upd H p (.lst (xs ++ zs)))
def rRep : R2 := fun x y H Q => ∃ l k xs, x = .ref l ∧ y = .int k ∧ H l = some (.lst xs) ∧ -(2 ^ 63) ≤ k ∧ k < 2 ^ 63 ∧ xs.length * k.toNat ≤ sizeLine ∧
  ∀ p, H p = none → Q (.ref p) (upd H p (.lst (List.replicate k.toNat xs).flatten))
end

section
variable {prog : Program} {w : World} {A : Around} {E : Value → Shared → Prop} {s : Shared}
end

section
variable {X : Cx}
end
end L2

namespace L2
open PySem PySem.Spec PyProof.Rows

section
variable {κ : Type} [DecidableEq κ]
def valV (kvs : List (κ × V)) (k : κ) : Option V := (kvs.find? fun kv => decide (kv.1 = k)).map (·.2)
def putK (kvs : List (κ × V)) (k : κ) (v : V) : List (κ × V) :=
  if (kvs.any fun kv => decide (kv.1 = k)) = true then kvs.map (fun kv => if kv.1 = k then (kv.1, v) else kv) else kvs ++ [(k, v)]
def dropK (kvs : List (κ × V)) (k : κ) : List (κ × V) := kvs.filter fun kv => decide (kv.1 ≠ k)

theorem valV_pos {p : κ × V} {r : List (κ × V)} {k : κ} (e : p.1 = k) : valV (p :: r) k = some p.2 := by simp [valV, List.find?_cons, e]
theorem valV_neg {p : κ × V} {r : List (κ × V)} {k : κ} (e : ¬ p.1 = k) : valV (p :: r) k = valV r k := by simp [valV, List.find?_cons, e]
theorem valV_any (k : κ) : ∀ kvs : List (κ × V), (kvs.any fun kv => decide (kv.1 = k)) = (valV kvs k).isSome
  | [] => rfl
  | p :: r => by
    rw [List.any_cons]
    by_cases e : p.1 = k
    · simp only [valV_pos e, decide_eq_true e, Bool.true_or, Option.isSome_some]
    · rw [valV_neg e, decide_eq_false e, Bool.false_or]; exact valV_any k r
theorem length_putK (kvs : List (κ × V)) (k : κ) (v : V) : (putK kvs k v).length ≤ kvs.length + 1 := by
  unfold putK
  split
  · rw [List.length_map]; omega
  · rw [List.length_append, List.length_cons, List.length_nil]; omega
theorem RelO.isSome_eq {o : Option V} {u : Option Value} (r : RelO o u) : o.isSome = u.isSome := by
  cases o with
  | none => cases u with
    | none => rfl
    | some _ => exact (show False from r).elim
  | some _ => cases u with
    | none => exact (show False from r).elim
    | some _ => rfl
theorem KV.any {kvs : List (κ × V)} {vs : List (κ × Value)} (r : KV kvs vs) (k : κ) : (kvs.any fun kv => decide (kv.1 = k)) = vs.any fun kv => decide (kv.1 = k) := by
  unfold KV at r
  induction r with
  | nil => rfl
  | cons h t ih => rw [List.any_cons, List.any_cons, ih, h.1]
theorem KV.repl {kvs : List (κ × V)} {vs : List (κ × Value)} (r : KV kvs vs) (k : κ) {y : V} {u : Value} (ry : RelV y u) :
    KV (kvs.map fun kv => if kv.1 = k then (kv.1, y) else kv) (vs.map fun kv => if kv.1 = k then (kv.1, u) else kv) := by
  unfold KV at r ⊢
  induction r with
  | nil => exact .nil
  | @cons p q ps qs h t ih =>
    rw [List.map_cons, List.map_cons]
    refine .cons ?_ ih
    obtain ⟨h1, h2⟩ := h
    by_cases e : p.1 = k
    · rw [if_pos e, if_pos (h1.symm.trans e)]; exact ⟨h1, ry⟩
    · rw [if_neg e, if_neg (fun z => e (h1.trans z))]; exact ⟨h1, h2⟩
theorem KV.put {kvs : List (κ × V)} {vs : List (κ × Value)} (r : KV kvs vs) (k : κ) {y : V} {u : Value} (ry : RelV y u) : KV (putK kvs k y) (stored vs k u) := by
  unfold putK stored
  rw [r.any k]
  by_cases e : (vs.any fun kv => decide (kv.1 = k)) = true
  · rw [if_pos e, if_pos e]; exact r.repl k ry
  · rw [if_neg e, if_neg e]; exact Paired.snoc r ⟨rfl, ry⟩
theorem KV.length {kvs : List (κ × V)} {vs : List (κ × Value)} (r : KV kvs vs) : kvs.length = vs.length := Paired.length r
theorem dropK_le (kvs : List (κ × V)) (k : κ) : (dropK kvs k).length ≤ kvs.length := List.length_filter_le _ _
end


theorem kV_is {P : Program} {w : World} {k : Key} {u : Value} (r : RelV (kV k) u) : (mixKind P w).is k u = true := by
  cases k with
  | inl i => obtain ⟨t, e⟩ := (show ∃ t, u = Value.int i t from r); subst e; exact mixKind_int P w i t
  | inr x => obtain ⟨t, e⟩ := (show ∃ t, u = Value.str x t from r); subst e; exact mixKind_str P w x t
theorem items_are {P : Program} {w : World} : ∀ {ks : List Key} {us : List Value}, Vals (ks.map kV) us → ItemsAre (mixKind P w) ks us
  | [], _, r => by rw [List.map_nil] at r; cases r; exact .nil
  | k :: ks, _, r => by
    rw [List.map_cons] at r
    cases r with
    | cons h t => exact .cons (kV_is h) (items_are t)

abbrev KT (H : Hp) : List (List Key × V) → List (List Key × Addr × Value) → Prop := Paired fun p q => p.1 = q.1 ∧ H q.2.1 = some (.tup (p.1.map kV)) ∧ RelV p.2 q.2.2
theorem KT.val {H : Hp} {kvs : List (List Key × V)} {xs : List (List Key × Addr × Value)} (r : KT H kvs xs) (k : List Key) : RelO (valV kvs k) ((atKey xs k).map (·.2)) := by
  induction r with
  | nil => exact True.intro
  | @cons p q ps qs h t ih =>
    obtain ⟨h1, _, h2⟩ := h
    by_cases e : p.1 = k
    · have e' : q.1 = k := h1.symm.trans e
      have b : atKey (q :: qs) k = some q.2 := by simp [atKey, List.find?_cons, e']
      rw [valV_pos e, b]; exact h2
    · have e' : ¬ q.1 = k := fun z => e (h1.trans z)
      have b : atKey (q :: qs) k = atKey qs k := by simp [atKey, List.find?_cons, e']
      rw [valV_neg e, b]; exact ih
theorem KT.repl {H : Hp} {kvs : List (List Key × V)} {xs : List (List Key × Addr × Value)} (r : KT H kvs xs) (k : List Key) {y : V} {u : Value} (ry : RelV y u) :
    KT H (kvs.map fun kv => if kv.1 = k then (kv.1, y) else kv) (xs.map (putAt k u)) := by
  induction r with
  | nil => exact .nil
  | @cons p q ps qs h t ih =>
    rw [List.map_cons, List.map_cons]
    refine .cons ?_ ih
    obtain ⟨h1, h2, h3⟩ := h
    unfold putAt
    by_cases e : p.1 = k
    · rw [if_pos e, if_pos (h1.symm.trans e)]; exact ⟨h1, h2, ry⟩
    · rw [if_neg e, if_neg (fun z => e (h1.trans z))]; exact ⟨h1, h2, h3⟩
theorem KT.put {H : Hp} {kvs : List (List Key × V)} {xs : List (List Key × Addr × Value)} (r : KT H kvs xs) (k : List Key) {b : Addr} {y : V} {u : Value} (hb : H b = some (.tup (k.map kV))) (ry : RelV y u) :
    KT H (putK kvs k y) (storedH xs k b u) := by
  have e : (kvs.any fun kv => decide (kv.1 = k)) = (atKey xs k).isSome := by
    rw [valV_any, (r.val k).isSome_eq, Option.isSome_map]
  unfold putK storedH
  rw [e]
  by_cases q : (atKey xs k).isSome = true
  · rw [if_pos q, if_pos q]; exact r.repl k ry
  · rw [if_neg q, if_neg q]; exact Paired.snoc r ⟨rfl, hb, ry⟩
theorem KT.keeps {H H' : Hp} {kvs : List (List Key × V)} {xs : List (List Key × Addr × Value)} (r : KT H kvs xs) (ht : ∀ b ys, H b = some (.tup ys) → H' b = some (.tup ys)) : KT H' kvs xs :=
  Paired.mapP r fun _ _ z => ⟨z.1, ht _ _ z.2.1, z.2.2⟩

section
variable {P : Program} {w : World} {H : Hp} {h : Heap} {a : Addr}
theorem rd_of {u : HO} (ok : HOk P w H h) (e : Rd H a u) : ObjOk P w H h a u := e.ok ok
theorem dk_rd {kvs : List (Key × V)} (ok : HOk P w H h) (e : Rd H a (.dK kvs)) : kvs.length ≤ sizeLine ∧ (a == sysModules) = false ∧ ∃ vs, KV kvs vs ∧ h.DictOf (mixKind P w) a vs :=
  show ObjOk P w H h a (.dK kvs) from rd_of ok e
theorem dk_of {kvs : List (Key × V)} (ok : HOk P w H h) (e : H a = some (.dK kvs)) : kvs.length ≤ sizeLine ∧ (a == sysModules) = false ∧ ∃ vs, KV kvs vs ∧ h.DictOf (mixKind P w) a vs := dk_rd ok (.inl e)
theorem key_of {ks : List Key} (ok : HOk P w H h) (e : H a = some (.tup (ks.map kV))) : (tupleKind (mixKind P w)).is h ks a := by
  obtain ⟨_, its, r, o, h1, h2, n, h3⟩ := (show ObjOk P w H h a (.tup (ks.map kV)) from ok a _ e)
  exact ⟨o, its.toArray, n, h1, h2, h3, by simpa using items_are r⟩
theorem dt_rd {kvs : List (List Key × V)} (ok : HOk P w H h) (e : Rd H a (.dT kvs)) : kvs.length ≤ sizeLine ∧ (a == sysModules) = false ∧
    ∃ xs, KT H kvs xs ∧ h.DictOfH (tupleKind (mixKind P w)) a xs := by
  obtain ⟨z, y, xs, r, o, es, ep, h1, h2, h3, h4, h5⟩ := (show ObjOk P w H h a (.dT kvs) from rd_of ok e)
  refine ⟨z, y, xs, r, o, es, ep, h1, h2, h3, h4, fun x hx => ?_, h5⟩
  have all : ∀ {l : List (List Key × V)} {m : List (List Key × Addr × Value)}, KT H l m → ∀ x ∈ m, (tupleKind (mixKind P w)).is h x.1 x.2.1 := by
    intro l m q
    induction q with
    | nil => intro x hx; exact nomatch hx
    | @cons p q ps qs hq t ih =>
      intro x hx
      rcases List.mem_cons.mp hx with e | hx
      · subst e
        exact key_of ok (by rw [← hq.1]; exact hq.2.1)
      · exact ih x hx
  exact all r x hx
theorem dt_of {kvs : List (List Key × V)} (ok : HOk P w H h) (e : H a = some (.dT kvs)) : kvs.length ≤ sizeLine ∧ (a == sysModules) = false ∧
    ∃ xs, KT H kvs xs ∧ h.DictOfH (tupleKind (mixKind P w)) a xs := dt_rd ok (.inl e)
end

def DGet (H : Hp) (a : Addr) (y : V) (r : Option V) : Prop :=
  (∃ kvs k, Rd H a (.dK kvs) ∧ y = kV k ∧ r = valV kvs k) ∨ ∃ kvs k b, Rd H a (.dT kvs) ∧ y = .ref b ∧ H b = some (.tup (k.map kV)) ∧ r = valV kvs k
def DPut (H : Hp) (a : Addr) (y v : V) (H' : Hp) : Prop :=
  (∃ kvs k, H a = some (.dK kvs) ∧ y = kV k ∧ kvs.length < sizeLine ∧ H' = upd H a (.dK (putK kvs k v))) ∨
  ∃ kvs k b, H a = some (.dT kvs) ∧ y = .ref b ∧ H b = some (.tup (k.map kV)) ∧ kvs.length < sizeLine ∧ H' = upd H a (.dT (putK kvs k v))
theorem DPut.t {H : Hp} {a b : Addr} {kvs : List (List Key × V)} {k : List Key} {v : V} (e : H a = some (.dT kvs)) (eb : H b = some (.tup (k.map kV))) (hl : kvs.length < sizeLine) :
    DPut H a (.ref b) v (upd H a (.dT (putK kvs k v))) := .inr ⟨kvs, k, b, e, rfl, eb, hl, rfl⟩


section
variable {X : Cx} {pins : List (Addr × Obj)} {σ : St} {H : Hp} {s : Shared} {a : Addr} {y v : V} {u r : Value} {o : Option V} {A : Around} {E : Value → Shared → Prop}

theorem Inv.big (I : Inv X pins σ H s) : sysModules < s.heap.objs.size := by
  have h : mainGlobals < s.heap.objs.size := (I.mod.glob.keeps I.bk).lt
  exact Nat.lt_trans (by decide) h

theorem d_write {h' : Heap} {t' : Nat} {ob : HO} (I : Inv X pins σ H s) (mu : Mut (H a)) (hs : Heap.SameBut a s.heap h') (he : ∃ q, h'.get? a = some q) (new : ObjOk X.prog X.w (upd H a ob) h' a ob) :
    Inv X pins σ (upd H a ob) { s with heap := h', toks := t' } :=
  I.write (x := a) (e := a) mu (.inl rfl) (fun b q hb z => (hs.2 b hb).trans z) he new
theorem dk_new {P : Program} {w : World} {H' : Hp} {h' : Heap} {kvs : List (Key × V)} {vs : List (Key × Value)} (z : kvs.length ≤ sizeLine) (hd : (a == sysModules) = false) (rel : KV kvs vs) (dd : h'.DictOf (mixKind P w) a vs) :
    ObjOk P w H' h' a (.dK kvs) := ⟨z, hd, vs, rel, dd⟩
theorem d_setItem {H' : Hp} {Q : Unit → Shared → Prop} (hu : A.units + 1 < cLine) (I : Inv X pins σ H s) (g : DPut H a y v H') (ry : RelV y u) (rv : RelV v r) (h : ∀ s', Inv X pins σ H' s' → Q () s') :
    wpAny (model X.prog X.w) A (setItem (.ref a) u r) Q E s := by
  rcases g with ⟨kvs, k, e, ey, l, eH⟩ | ⟨kvs, k, b, e, ey, eb, l, eH⟩
  · subst ey eH
    obtain ⟨z, hd, vs, rel, dd⟩ := dk_of I.hok e
    have hz : vs.length ≤ sizeLine := by rw [← rel.length]; exact z
    have hl : (putK kvs k v).length ≤ sizeLine := by have := length_putK kvs k v; omega
    refine wpAny_setItem_pairs (hsz := hz) (kV_is ry) dd fun h' dd' hs => h _ ?_
    have he : ∃ q, h'.get? a = some q := let ⟨q, _, _, hq, _⟩ := dd'; ⟨q, hq⟩
    exact d_write I (by rw [e]; exact True.intro) hs he (dk_new hl hd (rel.put k rv) dd')
  · subst ey eH
    cases (show u = Value.ref b from ry)
    obtain ⟨z, hd, xs, rel, dd⟩ := dt_of I.hok e
    have hz : xs.length ≤ sizeLine := by rw [← Paired.length rel]; exact z
    have hl : (putK kvs k v).length ≤ sizeLine := by have := length_putK kvs k v; omega
    refine wpAny_setItem_heap (hsz := hz) (tupleKind_room_in1 hu) (key_of I.hok eb) dd fun h' dd' hs => h _ ?_
    obtain ⟨q, es, ep, hq, h2, h3, h4, _, h5⟩ := dd'
    refine d_write I (by rw [e]; exact True.intro) hs ⟨q, hq⟩ ⟨hl, hd, _, (rel.put k eb rv).keeps fun c ys ec => ?_, q, es, ep, hq, h2, h3, h4, h5⟩
    rw [upd_ne (ne_of ec e (fun z => nomatch z))]
    exact ec
end

section
variable {X : Cx} {pins : List (Addr × Obj)} {σ : St} {H : Hp} {s : Shared} {a : Addr} {kvs : List (Key × V)} {k : Key} {u : Value} {A : Around} {E : Value → Shared → Prop}
end


def NoSl (i : Expr) : Prop := ∀ ov iv, subscripted i false ov iv = operate [ov, iv] (getItem ov iv)
theorem subD_of {prog : Program} {w : World} {A : Around} {E : Value → Shared → Prop} {s : Shared} {env : Env} {value slice : Expr} {pos : Pos} {T id : String} {Q : Value → Shared → Prop}
    (hl : typeLookup (.type T) "__getitem__" = pure (some (.builtin id))) (hs : NoSl slice)
    (h : wpAny (model prog w) A (eval value env) (fun o s₁ => wpAny (model prog w) A (eval slice env) (fun i s₂ => s₂.TypeIs o T ∧ wpAny (model prog w) A (getItem o i) Q E s₂) E s₁) E s) :
    wpAny (model prog w) A (eval (.Subscript value slice pos) env) Q E s := by
  refine Subscript_ (wpAny_mono h (fun o s₁ h₁ => wpAny_mono h₁ (fun i s₂ h₂ => ?_) fun _ _ x => x) fun _ _ x => x)
  obtain ⟨hT, h₂⟩ := h₂
  unfold subscriptTail
  refine wpAny_bind ?_
  rw [getitemInPython_of_ne hT.not_modules]
  refine wpAny_bind (wpAny_specialOf hT hl ?_)
  have fin : wpAny (model prog w) A (subscripted slice false o i) (fun r s₃ => wpAny (model prog w) A (letTemporaryGo value o r >>= fun _ => pure r) Q E s₃) E s₂ := by
    rw [hs o i]
    exact wpAny_operating (wpAny_mono h₂ (fun r s₃ h₃ => wpAny_bind (wpAny_letTemporaryGo (wpAny_pure h₃))) fun _ _ x => x)
  first
    | exact wpAny_pure (wpAny_bind fin)
    | exact wpAny_bind (wpAny_pure (wpAny_bind fin))
    | exact wpAny_bind fin

def tDGet (td ty : TE) : TE := fun σ H Q => td σ H fun x H1 => ty σ H1 fun y H2 => ∃ a v, x = .ref a ∧ DGet H2 a y (some v) ∧ Q v H2
def tDIn (ty td : TE) : TE := fun σ H Q => ty σ H fun y H1 => td σ H1 fun x H2 => ∃ a o, x = .ref a ∧ DGet H2 a y o ∧ Q (.bl o.isSome) H2
def tDNotIn (ty td : TE) : TE := fun σ H Q => ty σ H fun y H1 => td σ H1 fun x H2 => ∃ a o, x = .ref a ∧ DGet H2 a y o ∧ Q (.bl (!o.isSome)) H2
def sDPut (td ty tv : TE) : TS := fun D σ H => tv σ H fun v H1 => td σ H1 fun x H2 => ty σ H2 fun y H3 => ∃ a H4, x = .ref a ∧ DPut H3 a y v H4 ∧ D.nx σ H4
def sDAug (td ty tv : TE) (rd : V → V → Hp → VK → Prop) : TS := fun D σ H => td σ H fun x H1 => ty σ H1 fun y H2 => ∃ a v, x = .ref a ∧ DGet H2 a y (some v) ∧
  tv σ H2 fun y2 H3 => rd v y2 H3 fun z H4 => ∃ H5, DPut H4 a y z H5 ∧ D.nx σ H5
def sDDel (td ty : TE) : TS := fun D σ H => td σ H fun x H1 => ty σ H1 fun y H2 => ∃ a kvs k, x = .ref a ∧ H2 a = some (.dK kvs) ∧ y = kV k ∧ (valV kvs k).isSome = true ∧ D.nx σ (upd H2 a (.dK (dropK kvs k)))

section
variable {X : Cx} {o i e value : Expr} {pos pos' tpos : Pos} {td ty tv : TE}
theorem ps_dput (hu : X.A.units + 1 < cLine) (ho : PE X o td) (hi : PE X i ty) (hv : PE X value tv) (hs : swapsWith value (some (.Subscript o i pos')) pos.line X.env = pure false) :
    PS X (.Assign [.Subscript o i pos'] value pos) (sDPut td ty tv) := by
  intro pins s σ H D I h
  refine wpAny_Assign_Subscript (thn (hv pins s σ H _ I h) fun r s1 ⟨v, H1, I1, rv, q1⟩ => thn (ho pins s1 σ H1 _ I1 q1) fun u s2 ⟨x, H2, I2, rx, q2⟩ => thn (hi pins s2 σ H2 _ I2 q2) fun iv s3 ⟨y, H3, I3, ry, a, H4, ex, g, q3⟩ => ?_) hs
  subst ex
  obtain rfl : u = Value.ref a := rx
  exact d_setItem hu I3 g ry rv fun s4 I4 => ⟨σ, H4, I4, q3⟩
end


theorem dt_empty {P : Program} {w : World} {H : Hp} (h : Heap) (hb : sysModules < h.objs.size) : ObjOk P w H (h.push { cls := .type "dict", data := .dict #[] }) h.objs.size (.dT []) :=
  ⟨Nat.zero_le _, beq_eq_false_iff_ne.mpr (Ne.symm (Nat.ne_of_lt hb)), [], .nil, _, #[], 0, Heap.get?_push_size _ rfl, ⟨rfl, rfl, rfl⟩, rfl, rfl, List.nodup_nil⟩
def tDNewK : TE := fun _ H Q => ∀ p, H p = none → Q (.ref p) (upd H p (.dK []))
def tDNewT : TE := fun _ H Q => ∀ p, H p = none → Q (.ref p) (upd H p (.dT []))
section
variable {X : Cx} {pos : Pos}
theorem pe_dnewT : PE X (.Dict [] [] pos) tDNewT := fun pins s σ H Q I h =>
  wpAny_Dict_empty ⟨.ref s.heap.objs.size, _, I.laid (a := s.heap.objs.size) (o := .dT []) (t' := s.toks) (fun _ _ q => Heap.get?_push_of_some _ q) (Nat.le_refl _) (dt_empty s.heap I.big), rfl, h _ (I.hok.fresh (Nat.le_refl _))⟩
end

def tPairs : List (TE × TE) → St → Hp → (List (V × V) → Hp → Prop) → Prop
  | [], _, H, Q => Q [] H
  | (tk, tv) :: r, σ, H, Q => tk σ H fun x H1 => tv σ H1 fun y H2 => tPairs r σ H2 fun ps H3 => Q ((x, y) :: ps) H3
abbrev VV : List (V × V) → List (Value × Value) → Prop := Paired fun p q => RelV p.1 q.1 ∧ RelV p.2 q.2
def PPs (X : Cx) (pos : Pos) (keys : List (Option Expr)) (values : List Expr) (trs : List (TE × TE)) : Prop :=
  ∀ (pins : List (Addr × Obj)) (s : Shared) (σ : St) (H : Hp) (Q : List (V × V) → Hp → Prop), Inv X pins σ H s → tPairs trs σ H Q →
    wpAny (model X.prog X.w) X.A (evalPairs (pairTrees keys values X.env pos)) (fun vs s' => ∃ ps H', Inv X pins σ H' s' ∧ VV ps vs ∧ Q ps H') X.xe s
def mergeK (kvs more : List (Key × V)) : List (Key × V) := more.foldl (fun acc kv => putK acc kv.1 kv.2) kvs
def tDisp (trs : List (TE × TE)) : TE := fun σ H Q => ∀ p, H p = none → tPairs trs σ (upd H p (.dK [])) fun ps H2 => H2 p = some (.dK []) ∧ ∃ kvs : List (Key × V), ps = kvs.map (fun kv => (kV kv.1, kv.2)) ∧ kvs.length ≤ 15 ∧ Q (.ref p) (upd H2 p (.dK (mergeK [] kvs)))
structure M1 (X : Cx) (o : Expr) (m : Str) (apos : Pos) (e : Expr) (cpos : Pos) : Prop where
  base : attributeBase o m X.env (eval o X.env) = eval o X.env
  few : ((backTo cpos (starEach [e] X.env)).all (fun x => !x.1) && (backToKw cpos (keywordEach [] X.env)).all (fun x => x.1.isSome)
    && decide (([e] : List Expr).length + ([] : List Keyword).length + (if ([] : List Keyword).isEmpty then 0 else 1) < 30)) = true
  line : (apos.endLine == cpos.line) = true
  trees : backTo cpos (starEach [e] X.env) = [(false, eval e X.env)]
structure M2 (X : Cx) (o : Expr) (m : Str) (apos : Pos) (e f : Expr) (cpos : Pos) : Prop where
  base : attributeBase o m X.env (eval o X.env) = eval o X.env
  few : ((backTo cpos (starEach [e, f] X.env)).all (fun x => !x.1) && (backToKw cpos (keywordEach [] X.env)).all (fun x => x.1.isSome)
    && decide (([e, f] : List Expr).length + ([] : List Keyword).length + (if ([] : List Keyword).isEmpty then 0 else 1) < 30)) = true
  line : (apos.endLine == cpos.line) = true
  trees : backTo cpos (starEach [e, f] X.env) = [(false, eval e X.env), (false, eval f X.env)]

def IsD (H : Hp) (a : Addr) : Prop := (∃ kvs, Rd H a (.dK kvs)) ∨ ∃ kvs, Rd H a (.dT kvs)
theorem isD_at {X : Cx} {pins : List (Addr × Obj)} {σ : St} {H : Hp} {s : Shared} {a : Addr} (I : Inv X pins σ H s) (d : IsD H a) :
    s.TypeIs (.ref a) "dict" ∧ (∀ b, Value.ref a = .ref b → ∃ ob, s.heap.get? b = some ob ∧ ob.dict = none) ∧ (a == sysModules) = false := by
  rcases d with ⟨kvs, e⟩ | ⟨kvs, e⟩
  · obtain ⟨_, hd, vs, _, dd⟩ := dk_rd I.hok e
    refine ⟨dd.typeIs, fun b q => ?_, hd⟩
    cases q
    obtain ⟨ob, _, _, h1, h2, _⟩ := dd
    exact ⟨ob, h1, h2.2.1⟩
  · obtain ⟨_, hd, xs, _, dd⟩ := dt_rd I.hok e
    refine ⟨dd.typeIs, fun b q => ?_, hd⟩
    cases q
    obtain ⟨ob, _, _, h1, h2, _⟩ := dd
    exact ⟨ob, h1, h2.2.1⟩

section
variable {X : Cx} {pins : List (Addr × Obj)} {σ : St} {H : Hp} {s : Shared} {a : Addr} {y d : V} {u r : Value} {o : Option V} {A : Around} {E : Value → Shared → Prop}
end

def tDGet1 (td ty : TE) : TE := fun σ H Q => td σ H fun x H1 => ∃ a, x = .ref a ∧ IsD H1 a ∧ ty σ H1 fun y H2 => ∃ o, DGet H2 a y o ∧ Q (o.getD .non) H2
def tDGet2 (td ty tx : TE) : TE := fun σ H Q => td σ H fun x H1 => ∃ a, x = .ref a ∧ IsD H1 a ∧ ty σ H1 fun y H2 => tx σ H2 fun z H3 => ∃ o, DGet H3 a y o ∧ Q (o.getD z) H3
def tDPop1 (td ty : TE) : TE := fun σ H Q => td σ H fun x H1 => ∃ a, x = .ref a ∧ IsD H1 a ∧ ty σ H1 fun y H2 => ∃ kvs k v, H2 a = some (.dK kvs) ∧ y = kV k ∧ valV kvs k = some v ∧ Q v (upd H2 a (.dK (dropK kvs k)))
def tDPop2 (td ty tx : TE) : TE := fun σ H Q => td σ H fun x H1 => ∃ a, x = .ref a ∧ IsD H1 a ∧ ty σ H1 fun y H2 => tx σ H2 fun z H3 => ∃ kvs k, H3 a = some (.dK kvs) ∧ y = kV k ∧
  (∀ v, valV kvs k = some v → Q v (upd H3 a (.dK (dropK kvs k)))) ∧ (valV kvs k = none → Q z H3)
section
variable {X : Cx} {o e f : Expr} {apos cpos : Pos} {td ty tx : TE}
end

section
variable {X : Cx} {pins : List (Addr × Obj)} {σ : St} {H : Hp} {s : Shared} {a : Addr} {kvs : List (Key × V)} {A : Around} {E : Value → Shared → Prop}
end


section
variable {X : Cx} {pins : List (Addr × Obj)} {σ : St} {H : Hp} {s : Shared} {a : Addr} {y : V} {u : Value} {A : Around} {E : Value → Shared → Prop}
end
end L2

namespace Att
open PySem PySem.W PySem.Calls PyProof.Rows

theorem ints_of_wellAll {P : Params} {h : Heap} : ∀ (ns : List Int) (vs : List Value), WellAll P h vs (ns.map WData.int) → IntsAre vs ns := by
  intro ns
  induction ns with
  | nil =>
    intro vs w
    rw [List.map_nil] at w
    cases w
    exact .nil
  | cons n ns ih =>
    intro vs w
    rw [List.map_cons] at w
    cases w with
    | cons a b =>
      cases a
      exact .cons _ _ (ih _ b)

theorem script_of {l : OpenLaw} {n : Nat} (hn : l.most = some n) {P : Params} {h : Heap} {args : List WData} {vals : List Value}
    (hpre : l.row.toRowW.claim.pre args = true) (hwl : WellAll P h vals args) :
    ∃ a vs ns, vals = [Value.ref a] ∧ args = [WData.list (ns.map WData.int)] ∧ h.get? a = some { cls := .type "list", data := .seq vs.toArray } ∧ IntsAre vs ns ∧ ns.length ≤ n := by
  have hsh : WShape.hasAll [] args [.list .int] = true := (pre_splitW hpre).1
  have hc : l.pre.holds [] { args := args } = true := (pre_splitW hpre).2
  obtain ⟨d, r, rfl, h1, h2⟩ := hasAllW_cons hsh
  obtain rfl := hasAllW_nil h2
  obtain ⟨xs, rfl, h3⟩ := hasW_list h1
  obtain ⟨ns, rfl⟩ := items_int h3
  have hlen : ns.length ≤ n := by
    unfold OpenLaw.pre at hc
    have h4 : (WTm.not (.lt (.lit (.int (n : Int))) (.len (.arg 0)))).holds [] { args := [.list (ns.map .int)] } = true := by
      have h4 := (holds_andW hc).1
      rw [hn] at h4
      exact h4
    have h5 := condW_of h4 (w_not (w_lt w_lit (w_len_list (w_arg rfl))))
    rw [List.length_map] at h5
    refine Nat.le_of_not_lt fun q => ?_
    have q' : (n : Int) < ((ns.length : Nat) : Int) := by omega
    first
      | (rw [decide_eq_true q'] at h5; exact absurd h5 (by decide))
      | (simp at h5; omega)
  cases hwl with
  | cons w1 w2 =>
    cases w2
    cases w1 with
    | list ho hall => exact ⟨_, _, ns, rfl, rfl, ho, ints_of_wellAll ns _ hall, hlen⟩

theorem post_true (l : OpenLaw) (args : List WData) : l.row.toRowW.claim.post args (.bool true) args = true :=
  postW_of (r := l.row.toRowW) (X := (true == true))
    (show WShape.has [] (.bool true) .bool = true by first | rfl | decide | simp [WShape.has, WShape.arms, WShape.armsAll])
    (show (WTm.eq .res (.lit (.bool true))).value [] { args := args, res := some (.bool true), after := args } = some (.bool (true == true)) from w_eq_bool (w_res rfl) w_lit) rfl

theorem attach_call {l : OpenLaw} {n : Nat} {q : Program} {loose : List Str} {XP : (Str → Option Value) → Heap → Prop} {YP : World → Heap → Prop} {d : DefRec}
    (hn : l.most = some n) (hdf : d.params.defaults = [])
    (call : ∀ (w : World) (s₀ s₁ : Shared) (mg mb : Str → Option Value) (fa : Addr) (o : Obj) (pm cd doc : Value) (a : Addr) (vs : List Value) (ns : List Int),
      Ground q loose [] XP w s₀ mg mb s₁.heap → YP w s₁.heap →
      s₁.heap.get? fa = some o → o.data = .func (docDef d.name d.params d.body d.scope pm cd doc) → s₁.heap.CodeRec cd d.name → mg d.name = some (.ref fa) →
      s₁.heap.get? a = some { cls := .type "list", data := .seq vs.toArray } → IntsAre vs ns → ns.length ≤ n → s₁.gens = #[] →
      codeAny (model l.prog w) callerA (.call (.ref fa) ⟨[.ref a], []⟩) (fun r s' => r = .ok (.ret (.bool true)) ∧ OldK s₁.heap s'.heap ∧ s'.os = s₁.os ∧ AllBare s'.gens) s₁) :
    WalkO q loose XP YP l.row.toRowW d [] (fun f vs => PySem.call f vs) := by
  intro w s₀ s₁ mg mb G Y fa o pm cd doc dV kV ho hd hcd hD hmg hg args vals as hpre hlay hrd hwl hlo
  obtain rfl : dV = .none := Dflts.none hD hdf
  obtain rfl : kV = .none := Dflts.noKw hD
  obtain ⟨a, vs, ns, rfl, rfl, hobj, hints, hlen⟩ := script_of hn hpre hwl
  refine enter_call (codeAny_mono (call w s₀ s₁ mg mb fa o pm cd doc a vs ns G Y ho (fd_plain hd) hcd hmg hobj hints hlen hg) fun r s' hq => ?_)
  obtain ⟨rfl, h2, h3, h4⟩ := hq
  exact ⟨.inl ⟨.bool true, .bool true, [], rfl, fun _ => rfl, .bool true, post_true l _, fun _ => ⟨List.Pairwise.nil, fun _ hm => (nomatch hm)⟩⟩, h2, h3, h4⟩

section
variable {prog : Program} {w : World} {A : Around} {E : Value → Shared → Prop} {s : Shared} {K : Frag}

def noObjs (h : Heap) : Heap := { h with objs := #[] }
def ledger (h : Heap) (L d : Addr) : List (Addr × Obj) := (List.range h.objs.size).filterMap fun a => if a = L ∨ a = d then none else (h.get? a).map fun o => (a, o)
end
end Att

namespace L2
open PySem PySem.Spec PyProof.Rows

theorem vals_ints : ∀ {vs : List Value} {ns : List Int}, IntsAre vs ns → Vals (ns.map V.int) vs
  | _, _, .nil => .nil
  | _, _, .cons n t h => .cons ⟨t, rfl⟩ (vals_ints h)

def Only (H : Hp) : Prop := ∀ b, H b = none ∨ ∃ o xs, H b = some (.frz o (.lst xs))

theorem law_call {P : Program} {w : World} {K : PySem.W.Frag} {mg mb : Str → Option Value} {CX : CXT} {k : Nat} {fa a : Addr} {fd : FuncData} {x : Str} {sp : Sp} {s₁ : Shared} {vs : List Value} {ns : List Int}
    (KX : K.In s₁.heap) (hns : s₁.heap.Ns mainGlobals mg) (hb : s₁.heap.Ns builtinsNs mb) (hbb : ∀ x : Str, x ≠ "__name__" → mb x = bootBuiltins x) (hlim : s₁.heap.NoLimit) (hg : s₁.gens = #[])
    (ha : s₁.heap.get? a = some { cls := .type "list", data := .seq vs.toArray }) (hi : IntsAre vs ns) (hl : ns.length ≤ sizeLine) (hr : Room k callerA)
    (F : ∀ base : Heap, K.In base → base.Ns mainGlobals mg → FnOk P w K mg base CX k fa fd [x] sp) (hbind : ∀ (s : Shared) (u : Value), BindsTo s fd ⟨[u], []⟩ [(x, u)])
    (hsp : ∀ H : Hp, Only H → SqL K H a (ns.map V.int) → sp [.ref a] H (fun v _ => v = .bl true) fun _ _ _ => False)
    (hCX : ∀ H e s', CX [] H s₁ (fun _ _ _ => False) e s' → False) :
    codeAny (model P w) callerA (.call (.ref fa) ⟨[.ref a], []⟩) (fun r s' => r = .ok (.ret (.bool true)) ∧ OldK s₁.heap s'.heap ∧ s'.os = s₁.os ∧ AllBare s'.gens) s₁ := by
  have rv := vals_ints hi
  have lenV := hi.length
  -- from an abstract heap in which nothing but the script may be tracked
  have core : ∀ H : Hp, Only H → SqL K H a (ns.map V.int) → HOk P w H s₁.heap → (∀ b, H b ≠ none → b = a) → (H a ≠ none → K.lookup a = none) →
      codeAny (model P w) callerA (.call (.ref fa) ⟨[.ref a], []⟩) (fun r s' => r = .ok (.ret (.bool true)) ∧ OldK s₁.heap s'.heap ∧ s'.os = s₁.os ∧ AllBare s'.gens) s₁ := by
    intro H hO hS hok hA hK
    have base_of : ∀ {b : Addr} {o : Obj}, s₁.heap.get? b = some o → H b = none → (hidT s₁.heap H).get? b = some o := fun e n => hidT_get e n
    have noA : ∀ {b : Addr} {o : Obj} {es : Array DictEntry} {ep : Nat}, s₁.heap.get? b = some o → o.data = .dict es ep → H b = none := fun {b o es ep} e d => by
      cases q : H b with
      | none => rfl
      | some u =>
        have e' : b = a := hA b (by rw [q]; simp)
        subst e'
        rw [ha] at e; cases e
        have d' : Data.seq vs.toArray _ = Data.dict es ep := d
        cases d'
    have nsK : ∀ {b : Addr} {m : Str → Option Value}, s₁.heap.Ns b m → (hidT s₁.heap H).Ns b m := fun {b m} hq105 => by obtain ⟨o, es, ep, e, d, r⟩ := hq105; exact ⟨o, es, ep, base_of e (noA e d), d, r⟩
    have hKb : K.In (hidT s₁.heap H) := fun b o e => base_of (KX b o e) (by
      cases q : H b with
      | none => rfl
      | some u =>
        have e' : b = a := hA b (by rw [q]; simp)
        subst e'
        rw [hK (by rw [q]; simp)] at e; cases e)
    have hM : Mod K mg (hidT s₁.heap H) := ⟨hKb, nsK hns, ⟨mb, nsK hb, hbb⟩, let ⟨mc, h1, h2⟩ := hlim; ⟨mc, nsK h1, h2⟩⟩
    have e0 : Env0 P w K mg (hidT s₁.heap H) callerA [] s₁ H := ⟨rfl, hM, fun b o e => of_hidT e, Nat.le_of_eq (hidT_size _ _), trivial, fun b hb => absurd (show b ∈ ([] : List Addr) from hb) (by simp), hok, .of_eq hg⟩
    refine codeAny_mono ((F _ hKb (nsK hns)).run callerA [] s₁ H ⟨[.ref a], []⟩ [.ref a] [.ref a] _ _ hr e0 (hbind s₁ (.ref a)) (.cons rfl .nil) (hsp H hO hS)) fun r s' h => ?_
    cases r with
    | error e => exact (hCX H e s' h).elim
    | ok fl =>
      cases fl with
      | next => exact False.elim h
      | brk => exact False.elim h
      | cont => exact False.elim h
      | ret u =>
        obtain ⟨v, H', os, bare, un, hok', r', q⟩ := h
        have q' : v = .bl true := q
        subst q'
        obtain rfl : u = Value.bool true := r'
        refine ⟨rfl, OldK.of_keep fun b o e => ?_, os, bare⟩
        cases q : H b with
        | none => exact un.keep b o e q (by intro z; exact absurd (show b ∈ ([] : List Addr) from z) (by simp)) (by simp)
        | some u =>
          rcases hO b with z | ⟨ob, xs, z⟩
          · rw [q] at z; cases z
          · have z2 := un.frzs b ob _ z
            obtain ⟨e1, _⟩ := hok b _ z
            obtain ⟨e2, _⟩ := hok' b _ z2
            rw [e] at e1; cases e1
            exact e2
  cases hk : K.lookup a with
  | some o =>
    -- the script is one of the module's own objects
    have e := KX a o hk
    rw [ha] at e
    cases e
    refine core (fun _ => none) (fun _ => .inl rfl) (.inr ⟨_, vs.toArray, _, hk, rfl, rfl, rfl, by rw [List.size_toArray, lenV]; exact hl, by simpa using rv⟩) (fun b u z => by have z' : (none : Option HO) = some u := z; cases z') (fun b z => absurd rfl z) fun z => absurd rfl z
  | none =>
    refine core (fun b => if b = a then some (.frz { cls := .type "list", data := .seq vs.toArray } (.lst (ns.map V.int))) else none) (fun b => ?_) (.inl (.inr ⟨{ cls := .type "list", data := .seq vs.toArray }, if_pos rfl⟩)) (fun b u z => ?_) (fun b z => ?_) fun _ => hk
    · by_cases hb : b = a
      · exact .inr ⟨_, _, if_pos hb⟩
      · exact .inl (if_neg hb)
    · by_cases hb : b = a
      · have z' := (if_pos hb).symm.trans z
        cases z'
        subst hb
        exact ⟨ha, by rw [List.length_map]; exact hl, vs, _, rv, ha⟩
      · have z' := (if_neg hb).symm.trans z
        cases z'
    · by_cases hb : b = a
      · exact hb
      · exact absurd (if_neg hb) z
end L2

namespace L2
open PySem PySem.Spec PyProof.Rows

abbrev KOf {K : PySem.W.Frag} {h : Heap} (_ : K.In h) : PySem.W.Frag := K

theorem walk_of {l : PySem.W.OpenLaw} {n k : Nat} {q : Program} {loose : List Str} {XP : (Str → Option Value) → Heap → Prop} {YP : World → Heap → Prop} {d : DefRec} {K : Params → PySem.W.Frag} {CX : World → CXT} {sp : World → Sp} {x : Str}
    (hn : l.most = some n) (hn2 : n ≤ sizeLine) (hdf : d.params.defaults = []) (hr : Room k callerA)
    (hY : ∀ (w : World) (h : Heap), YP w h → (K w.params).In h)
    (F : ∀ (w : World) (mg : Str → Option Value) (fa : Addr) (h : Heap), (K w.params).In h → h.Ns mainGlobals mg → mg d.name = some (.ref fa) →
      ∃ fd : FuncData, (∀ (s : Shared) (u : Value), BindsTo s fd ⟨[u], []⟩ [(x, u)]) ∧
        ∀ base : Heap, (K w.params).In base → base.Ns mainGlobals mg → FnOk l.prog w (K w.params) mg base (CX w) k fa fd [x] (sp w))
    (hsp : ∀ (w : World) (H : Hp) (a : Addr) (ns : List Int), ns.length ≤ n → Only H → SqL (K w.params) H a (ns.map V.int) → sp w [.ref a] H (fun v _ => v = .bl true) fun _ _ _ => False)
    (hCX : ∀ (w : World) (H : Hp) (s : Shared) (e : Value) (s' : Shared), CX w [] H s (fun _ _ _ => False) e s' → False) :
    PySem.W.WalkO q loose XP YP l.row.toRowW d [] (fun f vs => PySem.call f vs) := by
  refine Att.attach_call hn hdf fun w s₀ s₁ mg mb fa o pm cd doc a vs ns G Y ho hd hcd hmg hobj hints hlen hg => ?_
  have KX := hY w _ Y
  obtain ⟨fd, hb, hF⟩ := F w mg fa _ KX G.T.g hmg
  exact law_call KX G.T.g G.T.b G.T.builtins G.T.nolimit hg hobj hints (Nat.le_trans hlen hn2) hr hF hb (fun H hO hS => hsp w H a ns hlen hO hS) fun H e s' => hCX w H s₁ e s'
end L2

namespace L2
open PySem PySem.Spec PyProof.Rows

def inClass (s : Stmt) (j : Nat) : Stmt := match s with
  | .ClassDef _ _ _ body _ _ _ _ _ _ _ => body.getD j (.Pass ⟨0, 0, 0, 0⟩)
  | _ => .Pass ⟨0, 0, 0, 0⟩
def defArgs (s : Stmt) : Arguments := match s with
  | .FunctionDef _ a _ _ _ _ _ _ _ _ => a
  | _ => { posonlyargs := [], args := [], vararg := none, kwonlyargs := [], kw_defaults := [], kwarg := none, defaults := [] }
def defBody (s : Stmt) : List Stmt := match s with
  | .FunctionDef _ _ b _ _ _ _ _ _ _ => b
  | _ => []
def defScope (s : Stmt) : Scope := match s with
  | .FunctionDef _ _ _ _ _ _ sc _ _ _ => sc
  | _ => { kind := .function, names := [], isGenerator := false, isCoroutine := false }

abbrev CX0 : CXT := fun _ _ _ _ _ _ => False
abbrev E0 : XK := fun _ _ _ => False
structure Fun (K : PySem.W.Frag) (x qual : Str) (st : Stmt) (f : Addr) (fd : FuncData) : Prop where
  ex : ∃ (oc : Value) (od : Option Addr) (kV doc pm : Value) (an : Option Addr) (cdv ct : Value) (osl : Array (Option Value)),
    fd = PySem.W.fnOf x qual (defArgs st) (defBody st) (defScope st) .none kV doc pm an cdv ct ∧ K.lookup f = some ⟨oc, od, .func fd, osl⟩ ∧ PySem.W.codeIn K cdv qual = true
  kp : PySem.W.keepIn K (.ref f) = true
section
variable {P : Program} {w : World} {K : PySem.W.Frag} {mg : Str → Option Value} {base : Heap}
theorem Fun.binds {x qual : Str} {st : Stmt} {f : Addr} {fd : FuncData} {ps : List Str} (F : Fun K x qual st f fd)
    (h : ∀ (kV doc pm : Value) (an : Option Addr) (cdv ct : Value) (us : List Value), us.length = ps.length → bindArgs (PySem.W.fnOf x qual (defArgs st) (defBody st) (defScope st) .none kV doc pm an cdv ct) ⟨us, []⟩ = pure (ps.zip us)) : Binds K fd ps [] := by
  obtain ⟨oc, od, kV, doc, pm, an, cdv, ct, osl, rfl, lk, hcd⟩ := F.ex
  exact .all (h kV doc pm an cdv ct)
theorem fun_mk {x qual : Str} {st : Stmt} {f : Addr} {oc : Value} {od an : Option Addr} {osl : Array (Option Value)} {kV doc pm cdv ct : Value} (l : K.lookup f = some ⟨oc, od, .func (PySem.W.fnOf x qual (defArgs st) (defBody st) (defScope st) .none kV doc pm an cdv ct), osl⟩)
    (c : PySem.W.codeIn K cdv qual = true) (k : PySem.W.keepIn K (.ref f) = true) : Fun K x qual st f (PySem.W.fnOf x qual (defArgs st) (defBody st) (defScope st) .none kV doc pm an cdv ct) := ⟨⟨oc, od, kV, doc, pm, an, cdv, ct, osl, rfl, l, c⟩, k⟩
end
section
variable {X : Cx}
end

def Same (H H' : Hp) : Prop := ∀ b o, H b = some o → H' b = some o
theorem Same.refl (H : Hp) : Same H H := fun _ _ h => h
theorem Same.trans {H H1 H2 : Hp} (a : Same H H1) (b : Same H1 H2) : Same H H2 := fun c o h => b c o (a c o h)
theorem Same.free {H H' : Hp} (e : Same H H') {l : Addr} (h : H' l = Option.none) : H l = Option.none := by
  cases q : H l with
  | none => rfl
  | some o =>
    rw [e l o q] at h
    cases h
theorem Same.seq {K : PySem.W.Frag} {H H' : Hp} {a : Addr} {xs : List V} (e : Same H H') (h : SqL K H a xs) : SqL K H' a xs := by
  rcases h with (h | ⟨o, h⟩) | h
  · exact .inl (.inl (e _ _ h))
  · exact .inl (.inr ⟨o, e _ _ h⟩)
  · exact .inr h

end L2

namespace L2
open PySem PySem.Spec PyProof.Rows
section
variable {X : Cx}
end
section
variable {κ : Type} [DecidableEq κ]
end
end L2


namespace L3
open PySem PySem.Spec PyProof.Rows L2
abbrev St := L2.St

inductive D where
  | non | bl (b : Bool) | int (i : Int) | str (x : Str) | tup (xs : List D) | lst (xs : List D) | exc (C : Addr) | ptr (a : Addr)
  | obj (C : Addr) (fs : List Str) (xs : List D) | dic (ks : List Key) (xs : List D) | dit (ks : List (List Key)) (xs : List D)

def excO (a C : Addr) : HO := .ext fun h => ∃ o vs, h.get? a = some o ∧ o.cls = .ref C ∧ o.data = .fields vs ∧ vs[2]? = some Value.none

def HandAt (F : Hp) (a : Addr) : Prop := ∃ o C, F a = some (.frz o (excO a C))
mutual
def Rep (K : PySem.W.Frag) (F : Hp) : D → V → Prop
  | .non, v => v = .non
  | .bl b, v => v = .bl b
  | .int i, v => v = .int i
  | .str x, v => v = .str x
  | .tup ds, v => ∃ a vs, v = .ref a ∧ SqT K F a vs ∧ Reps K F ds vs
  | .lst ds, v => ∃ a vs, v = .ref a ∧ SqL K F a vs ∧ Reps K F ds vs
  | .exc C, v => ∃ a o, v = .ref a ∧ F a = some (.frz o (excO a C))
  | .ptr a, v => v = .ref a
  | .obj C fs ds, v => ∃ a dx vs, v = .ref a ∧ F a = some (.ins C dx (fs.zip vs)) ∧ fs.length = vs.length ∧ Reps K F ds vs
  | .dic ks ds, v => ∃ a vs, v = .ref a ∧ F a = some (.dK (ks.zip vs)) ∧ ks.length = vs.length ∧ Reps K F ds vs
  | .dit ks ds, v => ∃ a vs, v = .ref a ∧ F a = some (.dT (ks.zip vs)) ∧ ks.length = vs.length ∧ Reps K F ds vs
def Reps (K : PySem.W.Frag) (F : Hp) : List D → List V → Prop
  | [], vs => vs = []
  | d :: ds, vs => ∃ v r, vs = v :: r ∧ Rep K F d v ∧ Reps K F ds r
end

theorem sqT_mono {K : PySem.W.Frag} {H H' : Hp} {a : Addr} {xs : List V} (e : Same H H') (h : SqT K H a xs) : SqT K H' a xs := by
  rcases h with (h | ⟨o, h⟩) | h
  · exact .inl (.inl (e _ _ h))
  · exact .inl (.inr ⟨o, e _ _ h⟩)
  · exact .inr h

mutual
theorem rep_mono {K : PySem.W.Frag} {F F' : Hp} (e : Same F F') : ∀ (d : D) (v : V), Rep K F d v → Rep K F' d v
  | .non, _, h => by unfold Rep at h ⊢; exact h
  | .bl _, _, h => by unfold Rep at h ⊢; exact h
  | .int _, _, h => by unfold Rep at h ⊢; exact h
  | .str _, _, h => by unfold Rep at h ⊢; exact h
  | .tup ds, _, h => by
    unfold Rep at h ⊢
    obtain ⟨a, vs, h0, h1, h2⟩ := h
    exact ⟨a, vs, h0, sqT_mono e h1, reps_mono e ds vs h2⟩
  | .lst ds, _, h => by
    unfold Rep at h ⊢
    obtain ⟨a, vs, h0, h1, h2⟩ := h
    exact ⟨a, vs, h0, e.seq h1, reps_mono e ds vs h2⟩
  | .ptr _, _, h => by unfold Rep at h ⊢; exact h
  | .exc C, _, h => by
    unfold Rep at h ⊢
    obtain ⟨a, o, h0, h1⟩ := h
    exact ⟨a, o, h0, e _ _ h1⟩
  | .obj C fs ds, _, h => by
    unfold Rep at h ⊢
    obtain ⟨a, dx, vs, h0, h1, h3, h4⟩ := h
    exact ⟨a, dx, vs, h0, e _ _ h1, h3, reps_mono e ds vs h4⟩
  | .dic ks ds, _, h => by
    unfold Rep at h ⊢
    obtain ⟨a, vs, h0, h1, h3, h4⟩ := h
    exact ⟨a, vs, h0, e _ _ h1, h3, reps_mono e ds vs h4⟩
  | .dit ks ds, _, h => by
    unfold Rep at h ⊢
    obtain ⟨a, vs, h0, h1, h3, h4⟩ := h
    exact ⟨a, vs, h0, e _ _ h1, h3, reps_mono e ds vs h4⟩
theorem reps_mono {K : PySem.W.Frag} {F F' : Hp} (e : Same F F') : ∀ (ds : List D) (vs : List V), Reps K F ds vs → Reps K F' ds vs
  | [], _, h => by unfold Reps at h ⊢; exact h
  | d :: ds, _, h => by
    unfold Reps at h ⊢
    obtain ⟨v, r, h0, h1, h2⟩ := h
    exact ⟨v, r, h0, rep_mono e d v h1, reps_mono e ds r h2⟩
end
theorem Rep.up {K : PySem.W.Frag} {F F' : Hp} {d : D} {v : V} (h : Rep K F d v) (e : Same F F') : Rep K F' d v := rep_mono e d v h
theorem Reps.up {K : PySem.W.Frag} {F F' : Hp} {ds : List D} {vs : List V} (h : Reps K F ds vs) (e : Same F F') : Reps K F' ds vs := reps_mono e ds vs h
theorem reps_len {K : PySem.W.Frag} {F : Hp} : ∀ {ds : List D} {vs : List V}, Reps K F ds vs → ds.length = vs.length
  | [], _, h => by unfold Reps at h; subst h; rfl
  | _ :: _, _, h => by
    unfold Reps at h
    obtain ⟨v, r, rfl, _, h2⟩ := h
    simp only [List.length_cons, reps_len h2]
theorem reps_get {K : PySem.W.Frag} {F : Hp} : ∀ {ds : List D} {vs : List V} {i : Nat} {d : D}, Reps K F ds vs → ds[i]? = some d → ∃ v, vs[i]? = some v ∧ Rep K F d v
  | [], _, _, _, _, e => by simp at e
  | _ :: _, _, 0, _, h, e => by
    unfold Reps at h
    obtain ⟨v, r, rfl, h1, _⟩ := h
    simp at e; subst e
    exact ⟨v, rfl, h1⟩
  | _ :: _, _, i + 1, d, h, e => by
    unfold Reps at h
    obtain ⟨v, r, rfl, _, h2⟩ := h
    obtain ⟨u, e1, e2⟩ := reps_get (i := i) h2 (by simpa using e)
    exact ⟨u, by simpa using e1, e2⟩
theorem reps_app {K : PySem.W.Frag} {F : Hp} : ∀ {ds es : List D} {vs us : List V}, Reps K F ds vs → Reps K F es us → Reps K F (ds ++ es) (vs ++ us)
  | [], _, _, _, h, k => by unfold Reps at h; subst h; exact k
  | _ :: _, _, _, _, h, k => by
    unfold Reps at h
    obtain ⟨v, r, rfl, h1, h2⟩ := h
    show Reps K F (_ :: (_ ++ _)) _
    unfold Reps
    exact ⟨v, _, rfl, h1, reps_app h2 k⟩
theorem reps_one {K : PySem.W.Frag} {F : Hp} {d : D} {v : V} (h : Rep K F d v) : Reps K F [d] [v] := by
  unfold Reps
  exact ⟨v, [], rfl, h, by unfold Reps; rfl⟩
theorem reps_cons {K : PySem.W.Frag} {F : Hp} {d : D} {v : V} {ds : List D} {vs : List V} (h : Rep K F d v) (k : Reps K F ds vs) : Reps K F (d :: ds) (v :: vs) := by
  unfold Reps
  exact ⟨v, vs, rfl, h, k⟩
theorem reps_take {K : PySem.W.Frag} {F : Hp} : ∀ {ds : List D} {vs : List V} (n : Nat), Reps K F ds vs → Reps K F (ds.take n) (vs.take n)
  | _, _, 0, _ => by simp [Reps]
  | [], _, _ + 1, h => by unfold Reps at h; subst h; simp [Reps]
  | _ :: _, _, n + 1, h => by
    unfold Reps at h
    obtain ⟨u, r, rfl, h1, h2⟩ := h
    exact reps_cons h1 (reps_take n h2)
theorem reps_drop {K : PySem.W.Frag} {F : Hp} : ∀ {ds : List D} {vs : List V} (n : Nat), Reps K F ds vs → Reps K F (ds.drop n) (vs.drop n)
  | _, _, 0, h => h
  | [], _, _ + 1, h => by unfold Reps at h; subst h; simp [Reps]
  | _ :: _, _, n + 1, h => by
    unfold Reps at h
    obtain ⟨u, r, rfl, h1, h2⟩ := h
    exact reps_drop n h2

def NewT (H : Hp) (b : Addr) (o : HO) : Prop := H b = none ∨ (∃ xs, o = .tup xs) ∧ H b = some o
theorem NewT.back {H H1 : Hp} {b : Addr} {o : HO} (s : Same H H1) (h : NewT H1 b o) : NewT H b o := by
  rcases h with h | ⟨⟨xs, e⟩, h⟩
  · exact .inl (s.free h)
  · cases q : H b with
    | none => exact .inl q
    | some u =>
      have := s _ _ q
      rw [h] at this; cases this
      exact .inr ⟨⟨xs, e⟩, q⟩
structure Gr (F H F' H' : Hp) : Prop where
  f : Same F F'
  g : Same F' H'
  h : Same H H'
  n : ∀ b o, F' b = some o → F b = none → NewT H b o
theorem Gr.refl {F H : Hp} (h : Same F H) : Gr F H F H := ⟨.refl _, h, .refl _, fun b o e n => by rw [e] at n; cases n⟩
theorem Gr.trans {F H F1 H1 F2 H2 : Hp} (a : Gr F H F1 H1) (b : Gr F1 H1 F2 H2) : Gr F H F2 H2 := by
  refine ⟨a.f.trans b.f, b.g, a.h.trans b.h, fun c o e n => ?_⟩
  cases q : F1 c with
  | none => exact NewT.back a.h (b.n c o e q)
  | some u => have := b.f _ _ q; rw [e] at this; cases this; exact a.n c _ q n
theorem Gr.laid {F H : Hp} {p : Addr} {o : HO} (h : Same F H) (hp : H p = none) : Gr F H (L2.upd F p o) (L2.upd H p o) := by
  refine ⟨fun b u e => ?_, fun b u e => ?_, fun b u e => ?_, fun b u e n => ?_⟩
  · rw [upd_ne (ne_of_none (h b u e) hp)]; exact e
  · by_cases hb : b = p
    · subst hb; rw [upd_same] at e ⊢; exact e
    · rw [upd_ne hb] at e ⊢; exact h b u e
  · rw [upd_ne (ne_of_none e hp)]; exact e
  · by_cases hb : b = p
    · subst hb; exact .inl hp
    · rw [upd_ne hb, n] at e; cases e

inductive T where
  | leaf (d : D) | lst (ts : List T) | dic (ks : List L2.Key) (ts : List T) | dit (ks : List (List L2.Key)) (ts : List T) | ob (C : Addr) (fs : List Str) (ts : List T) | kt (k : List L2.Key)
def keyD : Key → D | .inl i => .int i | .inr x => .str x
def mutF (fs : List Str) : Bool := !decide (fs = [("points" : Str)])
mutual
def TR (K : PySem.W.Frag) (F H : Hp) : T → V → List Addr → Prop
  | .leaf d, v, as => as = [] ∧ Rep K F d v
  | .lst ts, v, as => ∃ a vs bs, v = .ref a ∧ as = a :: bs ∧ H a = some (.lst vs) ∧ TRs K F H ts vs bs
  | .dic ks ts, v, as => ∃ a vs bs, v = .ref a ∧ as = a :: bs ∧ H a = some (.dK (ks.zip vs)) ∧ ks.length = vs.length ∧ TRs K F H ts vs bs
  | .dit ks ts, v, as => ∃ a vs bs, v = .ref a ∧ as = a :: bs ∧ H a = some (.dT (ks.zip vs)) ∧ ks.length = vs.length ∧ TRs K F H ts vs bs
  | .ob C fs ts, v, as => ∃ a dx vs bs, v = .ref a ∧ as = a :: dx :: bs ∧ H a = some (.ins C dx (fs.zip vs)) ∧ H dx = some (.own a) ∧ fs.length = vs.length ∧ mutF fs = true ∧ TRs K F H ts vs bs
  | .kt k, v, as => as = [] ∧ ∃ a, v = .ref a ∧ F a = some (.tup (k.map kV))
def TRs (K : PySem.W.Frag) (F H : Hp) : List T → List V → List Addr → Prop
  | [], vs, as => vs = [] ∧ as = []
  | t :: ts, vs, as => ∃ v us bs cs, vs = v :: us ∧ as = bs ++ cs ∧ TR K F H t v bs ∧ TRs K F H ts us cs
end
section
variable {K : PySem.W.Frag} {F H F' H' : Hp}
mutual
theorem TR.move (f : Same F F') : ∀ (t : T) (v : V) (as : List Addr), (∀ a ∈ as, ∀ u, H a = some u → H' a = some u) → TR K F H t v as → TR K F' H' t v as
  | .leaf d, v, as, k, h => by unfold TR at h ⊢; exact ⟨h.1, h.2.up f⟩
  | .lst ts, v, as, k, h => by
    unfold TR at h ⊢
    obtain ⟨a, vs, bs, e1, rfl, e3, h⟩ := h
    exact ⟨a, vs, bs, e1, rfl, k a List.mem_cons_self _ e3, TRs.move f ts vs bs (fun b hb => k b (List.mem_cons_of_mem _ hb)) h⟩
  | .dic ks ts, v, as, k, h => by
    unfold TR at h ⊢
    obtain ⟨a, vs, bs, e1, rfl, e3, e4, h⟩ := h
    exact ⟨a, vs, bs, e1, rfl, k a List.mem_cons_self _ e3, e4, TRs.move f ts vs bs (fun b hb => k b (List.mem_cons_of_mem _ hb)) h⟩
  | .dit ks ts, v, as, k, h => by
    unfold TR at h ⊢
    obtain ⟨a, vs, bs, e1, rfl, e3, e4, h⟩ := h
    exact ⟨a, vs, bs, e1, rfl, k a List.mem_cons_self _ e3, e4, TRs.move f ts vs bs (fun b hb => k b (List.mem_cons_of_mem _ hb)) h⟩
  | .ob C fs ts, v, as, k, h => by
    unfold TR at h ⊢
    obtain ⟨a, dx, vs, bs, e1, rfl, e3, e4, e5, e6, h⟩ := h
    exact ⟨a, dx, vs, bs, e1, rfl, k a List.mem_cons_self _ e3, k dx (List.mem_cons_of_mem _ List.mem_cons_self) _ e4, e5, e6, TRs.move f ts vs bs (fun b hb => k b (List.mem_cons_of_mem _ (List.mem_cons_of_mem _ hb))) h⟩
  | .kt _, v, as, k, h => by unfold TR at h ⊢; obtain ⟨e, a, e1, e2⟩ := h; exact ⟨e, a, e1, f _ _ e2⟩
theorem TRs.move (f : Same F F') : ∀ (ts : List T) (vs : List V) (as : List Addr), (∀ a ∈ as, ∀ u, H a = some u → H' a = some u) → TRs K F H ts vs as → TRs K F' H' ts vs as
  | [], vs, as, k, h => by unfold TRs at h ⊢; exact h
  | t :: ts, vs, as, k, h => by
    unfold TRs at h ⊢
    obtain ⟨v, us, bs, cs, e1, rfl, h1, h2⟩ := h
    exact ⟨v, us, bs, cs, e1, rfl, TR.move f t v bs (fun b hb => k b (List.mem_append_left _ hb)) h1, TRs.move f ts us cs (fun b hb => k b (List.mem_append_right _ hb)) h2⟩
end
def LD (u : HO) : Prop := (∃ vs, u = .lst vs) ∨ (∃ kvs, u = .dK kvs) ∨ (∃ kvs, u = .dT kvs) ∨ (∃ C dx kvs, u = .ins C dx kvs ∧ mutF (kvs.map (·.1)) = true) ∨ ∃ a, u = .own a
theorem fz_fst : ∀ {fs : List Str} {vs : List V}, fs.length = vs.length → (fs.zip vs).map (·.1) = fs
  | [], _, _ => rfl
  | _ :: _, [], h => by cases h
  | f :: fs, v :: vs, h => by rw [List.zip_cons_cons, List.map_cons, fz_fst (by simpa using h)]
theorem LD.tup {xs : List V} (h : LD (.tup xs)) : False := by rcases h with ⟨_, z⟩ | ⟨_, z⟩ | ⟨_, z⟩ | ⟨_, _, _, z, _⟩ | ⟨_, z⟩ <;> cases z
mutual
theorem TR.there : ∀ (t : T) (v : V) (as : List Addr), TR K F H t v as → ∀ a ∈ as, ∃ u, H a = some u ∧ LD u
  | .leaf d, v, as, h, a, ha => by unfold TR at h; rw [h.1] at ha; cases ha
  | .lst ts, v, as, h, a, ha => by
    unfold TR at h
    obtain ⟨b, vs, bs, e1, rfl, e3, h⟩ := h
    rcases List.mem_cons.mp ha with rfl | ha
    · exact ⟨_, e3, .inl ⟨_, rfl⟩⟩
    · exact TRs.there ts vs bs h a ha
  | .dic ks ts, v, as, h, a, ha => by
    unfold TR at h
    obtain ⟨b, vs, bs, e1, rfl, e3, _, h⟩ := h
    rcases List.mem_cons.mp ha with rfl | ha
    · exact ⟨_, e3, .inr (.inl ⟨_, rfl⟩)⟩
    · exact TRs.there ts vs bs h a ha
  | .dit ks ts, v, as, h, a, ha => by
    unfold TR at h
    obtain ⟨b, vs, bs, e1, rfl, e3, _, h⟩ := h
    rcases List.mem_cons.mp ha with rfl | ha
    · exact ⟨_, e3, .inr (.inr (.inl ⟨_, rfl⟩))⟩
    · exact TRs.there ts vs bs h a ha
  | .ob C fs ts, v, as, h, a, ha => by
    unfold TR at h
    obtain ⟨b, dx, vs, bs, e1, rfl, e3, e4, e5, e6, h⟩ := h
    rcases List.mem_cons.mp ha with rfl | ha
    · exact ⟨_, e3, .inr (.inr (.inr (.inl ⟨_, _, _, rfl, by rw [fz_fst e5]; exact e6⟩)))⟩
    · rcases List.mem_cons.mp ha with rfl | ha
      · exact ⟨_, e4, .inr (.inr (.inr (.inr ⟨_, rfl⟩)))⟩
      · exact TRs.there ts vs bs h a ha
  | .kt _, v, as, h, a, ha => by unfold TR at h; rw [h.1] at ha; cases ha
theorem TRs.there : ∀ (ts : List T) (vs : List V) (as : List Addr), TRs K F H ts vs as → ∀ a ∈ as, ∃ u, H a = some u ∧ LD u
  | [], vs, as, h, a, ha => by unfold TRs at h; rw [h.2] at ha; cases ha
  | t :: ts, vs, as, h, a, ha => by
    unfold TRs at h
    obtain ⟨v, us, bs, cs, e1, rfl, h1, h2⟩ := h
    rcases List.mem_append.mp ha with ha | ha
    · exact TR.there t v bs h1 a ha
    · exact TRs.there ts us cs h2 a ha
end
end
mutual
def toD : T → D
  | .leaf d => d
  | .lst ts => .lst (toDs ts)
  | .dic ks ts => .dic ks (toDs ts)
  | .dit ks ts => .dit ks (toDs ts)
  | .ob C fs ts => .obj C fs (toDs ts)
  | .kt k => .tup (k.map keyD)
def toDs : List T → List D
  | [] => []
  | t :: ts => toD t :: toDs ts
end
theorem reps_keys {K : PySem.W.Frag} {F : Hp} : ∀ ks : List Key, Reps K F (ks.map keyD) (ks.map kV)
  | [] => by unfold List.map Reps; rfl
  | .inl i :: ks => reps_cons (by unfold keyD Rep; rfl) (reps_keys ks)
  | .inr x :: ks => reps_cons (by unfold keyD Rep; rfl) (reps_keys ks)
section
variable {K : PySem.W.Frag} {F H F' : Hp}
mutual
theorem TR.rep (f : Same F F') : ∀ (t : T) (v : V) (as : List Addr), (∀ a ∈ as, ∀ u, H a = some u → F' a = some u) → TR K F H t v as → Rep K F' (toD t) v
  | .leaf d, v, as, k, h => by unfold TR at h; unfold toD; exact h.2.up f
  | .lst ts, v, as, k, h => by
    unfold TR at h
    obtain ⟨a, vs, bs, e1, rfl, e3, h⟩ := h
    unfold toD Rep
    exact ⟨a, vs, e1, .inl (.inl (k a List.mem_cons_self _ e3)), TRs.rep f ts vs bs (fun b hb => k b (List.mem_cons_of_mem _ hb)) h⟩
  | .dic ks ts, v, as, k, h => by
    unfold TR at h
    obtain ⟨a, vs, bs, e1, rfl, e3, e4, h⟩ := h
    unfold toD Rep
    exact ⟨a, vs, e1, k a List.mem_cons_self _ e3, e4, TRs.rep f ts vs bs (fun b hb => k b (List.mem_cons_of_mem _ hb)) h⟩
  | .dit ks ts, v, as, k, h => by
    unfold TR at h
    obtain ⟨a, vs, bs, e1, rfl, e3, e4, h⟩ := h
    unfold toD Rep
    exact ⟨a, vs, e1, k a List.mem_cons_self _ e3, e4, TRs.rep f ts vs bs (fun b hb => k b (List.mem_cons_of_mem _ hb)) h⟩
  | .ob C fs ts, v, as, k, h => by
    unfold TR at h
    obtain ⟨a, dx, vs, bs, e1, rfl, e3, e4, e5, e6, h⟩ := h
    unfold toD Rep
    exact ⟨a, dx, vs, e1, k a List.mem_cons_self _ e3, e5, TRs.rep f ts vs bs (fun b hb => k b (List.mem_cons_of_mem _ (List.mem_cons_of_mem _ hb))) h⟩
  | .kt k, v, as, _, h => by
    unfold TR at h
    obtain ⟨_, a, e1, e2⟩ := h
    unfold toD Rep
    exact ⟨a, _, e1, .inl (.inl (f _ _ e2)), reps_keys k⟩
theorem TRs.rep (f : Same F F') : ∀ (ts : List T) (vs : List V) (as : List Addr), (∀ a ∈ as, ∀ u, H a = some u → F' a = some u) → TRs K F H ts vs as → Reps K F' (toDs ts) vs
  | [], vs, as, k, h => by unfold TRs at h; unfold toDs Reps; exact h.1
  | t :: ts, vs, as, k, h => by
    unfold TRs at h
    obtain ⟨v, us, bs, cs, e1, rfl, h1, h2⟩ := h
    unfold toDs Reps
    exact ⟨v, us, e1, TR.rep f t v bs (fun b hb => k b (List.mem_append_left _ hb)) h1, TRs.rep f ts us cs (fun b hb => k b (List.mem_append_right _ hb)) h2⟩
end
end
inductive Slot where
  | no | pu (d : D) | ow (ds : List D) | tr (as : List Addr) (t : T)

def SlotR (K : PySem.W.Frag) (F H H0 : Hp) : Slot → Option V → Prop
  | .no, _ => True
  | .pu d, o => ∃ v, o = some v ∧ Rep K F d v
  | .ow ds, o => ∃ a vs, o = some (.ref a) ∧ H a = some (.lst vs) ∧ F a = none ∧ H0 a = none ∧ Reps K F ds vs
  | .tr as t, o => ∃ v, o = some v ∧ as.Nodup ∧ (∀ b ∈ as, F b = none ∧ H0 b = none) ∧ TR K F H t v as
def Own1 : Slot → Option V → Addr → Prop
  | .ow _, o, a => o = some (.ref a)
  | .tr as _, _, a => a ∈ as
  | _, _, _ => False
def OwnAt (Γ : List Slot) (σ : St) (i : Nat) (a : Addr) : Prop := ∃ s o, Γ[i]? = some s ∧ σ[i]? = some o ∧ Own1 s o a

structure SR (K : PySem.W.Frag) (F0 H0 F H : Hp) (σ : St) (Γ : List Slot) : Prop where
  gr : Gr F0 H0 F H
  len : σ.length = Γ.length
  sl : ∀ (i : Nat) s, Γ[i]? = some s → ∃ o, σ[i]? = some o ∧ SlotR K F H H0 s o
  ap : ∀ (i j : Nat) a, OwnAt Γ σ i a → OwnAt Γ σ j a → i = j

section
variable {K : PySem.W.Frag} {F0 H0 F H F' H' : Hp} {σ : St} {Γ : List Slot}
theorem SR.g (R : SR K F0 H0 F H σ Γ) : Same F H := R.gr.g
theorem own1_of {s : Slot} {o : Option V} {a : Addr} (r : SlotR K F H H0 s o) (h : Own1 s o a) : F a = none ∧ H0 a = none ∧ ∃ u, H a = some u ∧ LD u := by
  cases s with
  | no => exact h.elim
  | pu d => exact h.elim
  | ow ds => obtain ⟨b, vs, rfl, h1, h2, h3, _⟩ := r; cases h; exact ⟨h2, h3, _, h1, .inl ⟨_, rfl⟩⟩
  | tr as t => obtain ⟨v, _, _, h2, h3⟩ := r; exact ⟨(h2 a h).1, (h2 a h).2, TR.there t v as h3 a h⟩
theorem slotR_move {s : Slot} {o : Option V} (r : SlotR K F H H0 s o) (f : Same F F') (k : ∀ a, Own1 s o a → F' a = none ∧ ∀ u, H a = some u → H' a = some u) : SlotR K F' H' H0 s o := by
  cases s with
  | no => trivial
  | pu d =>
    obtain ⟨v, e, r⟩ := r
    exact ⟨v, e, r.up f⟩
  | ow ds =>
    obtain ⟨a, vs, e, e1, e2, e3, r⟩ := r
    obtain ⟨k1, k2⟩ := k a e
    exact ⟨a, vs, e, k2 _ e1, k1, e3, r.up f⟩
  | tr as t =>
    obtain ⟨v, e, nd, h, r⟩ := r
    exact ⟨v, e, nd, fun b hb => ⟨(k b hb).1, (h b hb).2⟩, TR.move f t v as (fun a ha => (k a ha).2) r⟩
theorem slotR_grow {s : Slot} {o : Option V} (r : SlotR K F H H0 s o) (g : Gr F H F' H') : SlotR K F' H' H0 s o :=
  slotR_move r g.f fun a ha => by
    obtain ⟨h1, _, u, h3, ld⟩ := own1_of r ha
    refine ⟨?_, fun u e => g.h _ _ e⟩
    cases q : F' a with
    | none => rfl
    | some w =>
      rcases g.n a w q h1 with z | ⟨⟨xs, e⟩, z⟩
      · rw [h3] at z; cases z
      · rw [h3] at z; cases z
        subst e
        exact ld.tup.elim
theorem SR.grow (R : SR K F0 H0 F H σ Γ) (g : Gr F H F' H') : SR K F0 H0 F' H' σ Γ := by
  refine ⟨R.gr.trans g, R.len, fun i s e => ?_, R.ap⟩
  obtain ⟨o, e1, r⟩ := R.sl i s e
  exact ⟨o, e1, slotR_grow r g⟩
theorem ownAt_set {i j : Nat} {s : Slot} {o : Option V} {a : Addr} (h : OwnAt (Γ.set i s) (σ.set i o) j a) : (j = i ∧ Own1 s o a) ∨ (j ≠ i ∧ OwnAt Γ σ j a) := by
  obtain ⟨t, p, e1, e2, h⟩ := h
  by_cases hj : i = j
  · subst hj
    have hi : i < Γ.length := by
      rcases Nat.lt_or_ge i Γ.length with h | h
      · exact h
      · rw [List.getElem?_eq_none (by simpa using h)] at e1; cases e1
    have hi' : i < σ.length := by
      rcases Nat.lt_or_ge i σ.length with h | h
      · exact h
      · rw [List.getElem?_eq_none (by simpa using h)] at e2; cases e2
    rw [List.getElem?_set_self hi] at e1
    rw [List.getElem?_set_self hi'] at e2
    cases e1; cases e2
    exact .inl ⟨rfl, h⟩
  · rw [List.getElem?_set_ne hj] at e1 e2
    exact .inr ⟨Ne.symm hj, t, p, e1, e2, h⟩
def Apart (σ : St) (Γ : List Slot) (a : Addr) : Prop := ∀ j, ¬ OwnAt Γ σ j a
theorem SR.apart (R : SR K F0 H0 F H σ Γ) {a : Addr} (h : H a = none) : Apart σ Γ a := fun j hq1 => by
  obtain ⟨s, o, e1, e2, q⟩ := hq1
  obtain ⟨o', e3, r⟩ := R.sl j s e1
  rw [e2] at e3; cases e3
  obtain ⟨_, _, u, e, _⟩ := own1_of r q
  rw [h] at e; cases e
theorem SR.put {s : Slot} {o : Option V} (R : SR K F0 H0 F H σ Γ) (i : Nat) (r : SlotR K F H H0 s o) (ha : ∀ a, Own1 s o a → Apart σ Γ a) : SR K F0 H0 F H (σ.set i o) (Γ.set i s) := by
  refine ⟨R.gr, by simp [R.len], fun j t e => ?_, fun j k a e1 e2 => ?_⟩
  · by_cases hj : i = j
    · subst hj
      have hi : i < Γ.length := by
        rcases Nat.lt_or_ge i Γ.length with h | h
        · exact h
        · rw [List.getElem?_eq_none (by simpa using h)] at e; cases e
      rw [List.getElem?_set_self hi] at e
      cases e
      exact ⟨o, List.getElem?_set_self (by rw [R.len]; exact hi), r⟩
    · rw [List.getElem?_set_ne hj] at e
      rw [List.getElem?_set_ne hj]
      exact R.sl j t e
  · rcases ownAt_set e1 with ⟨rfl, q1⟩ | ⟨n1, q1⟩
    · rcases ownAt_set e2 with ⟨rfl, _⟩ | ⟨_, q2⟩
      · rfl
      · exact (ha a q1 _ q2).elim
    · rcases ownAt_set e2 with ⟨rfl, q2⟩ | ⟨_, q2⟩
      · exact (ha a q2 _ q1).elim
      · exact R.ap j k a q1 q2
theorem SR.set {d : D} {v : V} (R : SR K F0 H0 F H σ Γ) (i : Nat) (r : Rep K F d v) : SR K F0 H0 F H (σ.set i (some v)) (Γ.set i (.pu d)) := R.put i ⟨v, rfl, r⟩ fun _ h => h.elim
theorem SR.drop (R : SR K F0 H0 F H σ Γ) (i : Nat) (o : Option V) : SR K F0 H0 F H (σ.set i o) (Γ.set i .no) := R.put i trivial fun _ h => h.elim
theorem SR.setOw {ds : List D} {vs : List V} {a : Addr} (R : SR K F0 H0 F H σ Γ) (i : Nat) (h1 : H a = some (.lst vs)) (h2 : F a = none) (h3 : H0 a = none) (r : Reps K F ds vs) (ha : Apart σ Γ a) :
    SR K F0 H0 F H (σ.set i (some (.ref a))) (Γ.set i (.ow ds)) := R.put i ⟨a, vs, rfl, h1, h2, h3, r⟩ fun b h => by cases h; exact ha
theorem frz_gr {a : Addr} {vs : List V} (g : Same F H) (h1 : H a = some (.lst vs)) (h2 : F a = none) : Same F (L2.upd F a (.lst vs)) ∧ Same (L2.upd F a (.lst vs)) H := by
  refine ⟨fun b u e => ?_, fun b u e => ?_⟩
  · rw [upd_ne (ne_of_none e h2)]; exact e
  · by_cases hb : b = a
    · subst hb; rw [upd_same] at e; cases e; exact h1
    · rw [upd_ne hb] at e; exact g b u e
theorem SR.frzM (R : SR K F0 H0 F H σ Γ) (s1 : Same F F') (s2 : Same F' H) (n : ∀ b u, F' b = some u → F b = none → H0 b = none ∧ Apart σ Γ b) : SR K F0 H0 F' H σ Γ := by
  refine ⟨⟨R.gr.f.trans s1, s2, R.gr.h, fun b o e q => ?_⟩, R.len, fun j s e => ?_, R.ap⟩
  · cases z : F b with
    | none => exact .inl (n b o e z).1
    | some u => have := s1 _ _ z; rw [e] at this; cases this; exact R.gr.n b _ z q
  · obtain ⟨o, e1, r⟩ := R.sl j s e
    refine ⟨o, e1, slotR_move r s1 fun b hb => ⟨?_, fun _ q => q⟩⟩
    obtain ⟨h1, _, _⟩ := own1_of r hb
    cases q : F' b with
    | none => rfl
    | some u => exact ((n b u q h1).2 j ⟨s, o, e, e1, hb⟩).elim
def tupF (F H : Hp) : Hp := fun b => match F b with | some u => some u | none => match H b with | some (.tup xs) => some (.tup xs) | _ => none
theorem tupF_sub {F H : Hp} : Same F (tupF F H) := fun b u e => by unfold tupF; rw [e]
theorem tupF_of {F H : Hp} (g : Same F H) : Same (tupF F H) H := fun b u e => by
  unfold tupF at e
  cases q : F b with
  | some w => rw [q] at e; cases e; exact g _ _ q
  | none =>
    rw [q] at e
    dsimp only at e
    split at e
    · rename_i z; cases e; exact z
    · cases e
theorem tupF_at {F H : Hp} (g : Same F H) {b : Addr} {xs : List V} (e : H b = some (.tup xs)) : tupF F H b = some (.tup xs) := by
  unfold tupF
  cases q : F b with
  | some w => have := g _ _ q; rw [e] at this; cases this; rfl
  | none => rw [e]
theorem tupF_new {F H : Hp} {b : Addr} {u : HO} (e : tupF F H b = some u) (n : F b = none) : (∃ xs, u = .tup xs) ∧ H b = some u := by
  unfold tupF at e
  rw [n] at e
  dsimp only at e
  split at e
  · rename_i z; cases e; exact ⟨⟨_, rfl⟩, z⟩
  · cases e
theorem SR.tups (R : SR K F0 H0 F H σ Γ) : SR K F0 H0 (tupF F H) H σ Γ := by
  refine ⟨⟨R.gr.f.trans tupF_sub, tupF_of R.g, R.gr.h, fun b o e q => ?_⟩, R.len, fun j s e => ?_, R.ap⟩
  · cases z : F b with
    | none => exact NewT.back R.gr.h (.inr (tupF_new e z))
    | some u => have := tupF_sub (H := H) _ _ z; rw [e] at this; cases this; exact R.gr.n b _ z q
  · obtain ⟨o, e1, r⟩ := R.sl j s e
    refine ⟨o, e1, slotR_move r tupF_sub fun b hb => ⟨?_, fun _ q => q⟩⟩
    obtain ⟨h1, _, u, h3, ld⟩ := own1_of r hb
    cases q : tupF F H b with
    | none => rfl
    | some w =>
      obtain ⟨⟨xs, rfl⟩, z⟩ := tupF_new q h1
      rw [h3] at z; cases z
      exact ld.tup.elim
theorem SR.frzA {a : Addr} {vs : List V} (R : SR K F0 H0 F H σ Γ) (h1 : H a = some (.lst vs)) (h2 : F a = none) (h3 : H0 a = none) (ha : Apart σ Γ a) : SR K F0 H0 (L2.upd F a (.lst vs)) H σ Γ := by
  obtain ⟨s1, s2⟩ := frz_gr R.g h1 h2
  refine R.frzM s1 s2 fun b u e n => ?_
  by_cases hb : b = a
  · subst hb; exact ⟨h3, ha⟩
  · rw [upd_ne hb, n] at e; cases e
theorem set_at {o : Option V} {i : Nat} (e1 : σ[i]? = some o) : σ.set i o = σ := by
  obtain ⟨hl, e2⟩ := List.getElem?_eq_some_iff.mp e1
  rw [← e2]; simp
theorem SR.less {i : Nat} {s : Slot} {o : Option V} {a : Addr} (R : SR K F0 H0 F H σ Γ) (e : Γ[i]? = some s) (e1 : σ[i]? = some o) (h : Own1 s o a) : Apart σ (Γ.set i .no) a := fun j q => by
  have q' : OwnAt (Γ.set i .no) (σ.set i o) j a := by rw [set_at e1]; exact q
  rcases ownAt_set q' with ⟨_, z⟩ | ⟨n, z⟩
  · exact z
  · exact n (R.ap j i a z ⟨s, o, e, e1, h⟩)
theorem SR.dropAt {i : Nat} {o : Option V} (R : SR K F0 H0 F H σ Γ) (e1 : σ[i]? = some o) : SR K F0 H0 F H σ (Γ.set i .no) := by
  have q := R.drop i o
  rw [set_at e1] at q; exact q
theorem SR.frz {i : Nat} {ds : List D} (R : SR K F0 H0 F H σ Γ) (e : Γ[i]? = some (.ow ds)) : ∃ a F', σ[i]? = some (some (.ref a)) ∧ Same F F' ∧ SR K F0 H0 F' H σ (Γ.set i (.pu (.lst ds))) ∧ Rep K F' (.lst ds) (.ref a) := by
  obtain ⟨o, e1, a, vs, rfl, h1, h2, h3, r⟩ := R.sl i _ e
  obtain ⟨s1, _⟩ := frz_gr R.g h1 h2
  have rp : Rep K (L2.upd F a (.lst vs)) (.lst ds) (.ref a) := by
    unfold Rep
    exact ⟨a, vs, rfl, .inl (.inl upd_same), r.up s1⟩
  have R2 := ((R.dropAt e1).frzA h1 h2 h3 (R.less e e1 (show Own1 (Slot.ow ds) (some (.ref a)) a from rfl))).set i rp
  rw [set_at e1, List.set_set] at R2
  exact ⟨a, _, e1, s1, R2, rp⟩
theorem SR.wrO {i : Nat} {s t : Slot} {o : Option V} {a : Addr} {u : HO} (R : SR K F0 H0 F H σ Γ) (e : Γ[i]? = some s) (e1 : σ[i]? = some o) (h : Own1 s o a) (r : SlotR K F (L2.upd H a u) H0 t o) (ht : ∀ b, Own1 t o b → Own1 s o b) :
    SR K F0 H0 F (L2.upd H a u) σ (Γ.set i t) := by
  obtain ⟨o', e2, r0⟩ := R.sl i _ e
  rw [e1] at e2; cases e2
  obtain ⟨h2, h3, w, h1, _⟩ := own1_of r0 h
  have hi : i < Γ.length := (List.getElem?_eq_some_iff.mp e).1
  have R1 : SR K F0 H0 F (L2.upd H a u) σ (Γ.set i .no) := by
    have R0 := R.dropAt e1
    refine ⟨⟨R0.gr.f, fun b u q => ?_, fun b u q => ?_, fun b o q n => R0.gr.n b o q n⟩, R0.len, fun j s' q => ?_, R0.ap⟩
    · rw [upd_ne (ne_of_none q h2)]; exact R0.g b u q
    · rw [upd_ne (ne_of_none q h3)]; exact R0.gr.h b u q
    · obtain ⟨o, p1, p2⟩ := R0.sl j s' q
      refine ⟨o, p1, slotR_move p2 (.refl _) fun b hb => ⟨(own1_of p2 hb).1, fun u q' => ?_⟩⟩
      have : b ≠ a := fun z => by subst z; exact R.less e e1 h j ⟨s', o, q, p1, hb⟩
      rw [upd_ne this]; exact q'
  have R2 := R1.put i r fun b hb => R.less e e1 (ht b hb)
  rw [set_at e1, List.set_set] at R2
  exact R2
theorem SR.wr {i : Nat} {ds es : List D} {a : Addr} {us : List V} (R : SR K F0 H0 F H σ Γ) (e : Γ[i]? = some (.ow ds)) (e1 : σ[i]? = some (some (.ref a))) (r : Reps K F es us) :
    SR K F0 H0 F (L2.upd H a (.lst us)) σ (Γ.set i (.ow es)) := by
  obtain ⟨o, e2, r0⟩ := R.sl i _ e
  rw [e1] at e2; cases e2
  obtain ⟨h2, h3, _⟩ := own1_of r0 (show Own1 (Slot.ow ds) (some (.ref a)) a from rfl)
  exact R.wrO e e1 (show Own1 (Slot.ow ds) (some (.ref a)) a from rfl) ⟨a, us, rfl, upd_same, h2, h3, r⟩ fun b hb => hb
theorem SR.base (R : SR K F0 H0 F H σ Γ) : SR K F H0 F H σ Γ := ⟨⟨.refl _, R.g, R.gr.h, fun b o e n => by rw [e] at n; cases n⟩, R.len, R.sl, R.ap⟩
theorem Gr.unbase (g : Gr F0 H0 F H) (g' : Gr F H0 F' H') : Gr F0 H0 F' H' := by
  refine ⟨g.f.trans g'.f, g'.g, g'.h, fun b o e n => ?_⟩
  cases q : F b with
  | none => exact g'.n b o e q
  | some u => have := g'.f _ _ q; rw [e] at this; cases this; exact g.n b _ q n
theorem SR.unbase {σ' : St} {Γ' : List Slot} (g : Gr F0 H0 F H) (R : SR K F H0 F' H' σ' Γ') : SR K F0 H0 F' H' σ' Γ' := ⟨g.unbase R.gr, R.len, R.sl, R.ap⟩
end
end L3

namespace L3
open PySem PySem.Spec PyProof.Rows L2

def TrY (h B : Heap) (e : Addr) (cls : Value) (dd : Option Addr) (fl : Value) : Prop :=
  ∃ oe vs T oT ts, h.get? e = some oe ∧ (oe.cls = cls ∧ oe.dict = dd ∧ vs[2]? = some Value.none) ∧ oe.data = .fields vs ∧ vs[1]? = some (.ref T) ∧ B.get? T = none ∧ T ≠ e ∧ h.get? T = some oT ∧ oT.data = .fields ts ∧ ts[3]? = some fl
def Air (B : Heap) (l : List Env) (a : Addr) (cls : Value) (h : Heap) : Prop :=
  B.StaysIn h ∧ B.get? a = none ∧ h.FunFrames B l ∧
    ((∃ dd, TrY h B a cls dd .none) ∨ ∃ oe vs, h.get? a = some oe ∧ oe.cls = cls ∧ oe.data = .fields vs ∧ vs[1]? = some Value.none ∧ vs[2]? = some Value.none)
def HeldY (B : Heap) (l : List Env) (e : Addr) (cls : Value) (dd : Option Addr) (fl : Value) (h : Heap) : Prop := B.StaysIn h ∧ B.get? e = none ∧ h.FunFrames B l ∧ TrY h B e cls dd fl
theorem HeldY.there {B h : Heap} {l : List Env} {e : Addr} {cls fl : Value} {dd : Option Addr} (x : HeldY B l e cls dd fl h) : ∃ ob, h.get? e = some ob ∧ ob.cls = cls := by
  obtain ⟨_, _, _, oe, _, _, _, _, he, hc, _⟩ := x
  exact ⟨oe, he, hc.1⟩

section
variable {M : Model} {A : Around} {E : Value → Shared → Prop} {s : Shared} {B : Heap} {env : Env} {outer : List Env} {L a : Addr} {cls fl : Value} {dd : Option Addr} {Q : Unit → Shared → Prop}
theorem dict_mapF (f : Array Value → Array Value) (o : Obj) : (Obj.mapFields f o).dict = o.dict := by
  unfold Obj.mapFields
  split <;> rfl
theorem not_fields {h : Heap} {T b : Addr} {oT o : Obj} {ts : Array Value} (hT : h.get? T = some oT) (hd : oT.data = .fields ts) (hb : h.get? b = some o) (hn : ∀ vs, o.data ≠ .fields vs) : b ≠ T := fun q => by
  rw [q, hT] at hb; injection hb with hb; subst hb; exact hn ts hd
theorem landY {l : List Env} (x : HeldY B l a cls dd fl s.heap) (hQ : ∀ h', HeldY B l a cls dd .none h' → s.heap.UpToSlots h' → Q () { s with heap := h' }) : wpAny M A (setFlight (.ref a) none) Q E s := by
  obtain ⟨f1, f2, f3, oe, vs, T, oT, ts, he, hk, hd, h1, hB, hne, hT, hdT, h3⟩ := x
  have far : ∀ b, b ≠ T → (s.heap.update T (Obj.mapFields (·.setIfInBounds 3 ((none : Option Addr).elim Value.none fun f => rawInt f)))).get? b = s.heap.get? b := fun b hb => Heap.get?_update_other _ _ (Ne.symm hb)
  have hz : 3 < ts.size := (Array.getElem?_eq_some_iff.mp h3).1
  unfold setFlight
  refine wpAny_bind (wpAny_field he hd h1 ?_)
  rw [if_pos (by simp)]
  refine wpAny_setField hT hdT hz (hQ _ ⟨fun b o q => ?_, f2, f3.of_keeps fun b o q n => ⟨o, ?_, rfl⟩, oe, vs, T, _, _, (far a (Ne.symm hne)).trans he, hk, hd, h1, hB, hne, Heap.get?_update_self _ hT (Obj.isFreed_of_fields (Obj.data_mapFields hdT _)), Obj.data_mapFields hdT _, by simp [hz]⟩ fun b o q n => ⟨o.slots, ?_⟩)
  · exact (far b fun z => by rw [z, hB] at q; cases q).trans (f1 b o q)
  · exact (far b (not_fields hT hdT q n)).trans q
  · exact (far b (not_fields hT hdT q n)).trans q
theorem entryY {oe : Obj} {vs : Array Value} {head : Value} {more : Bool} (hfr : A.frames = some (env :: outer)) (hl : s.heap.FunFrames B (env :: outer)) (hf : env.frame = some L) (he : s.heap.get? a = some oe) (hkb : B.StaysIn s.heap) (hen : B.get? a = none)
    (hd : oe.data = .fields vs) (hz : 1 < vs.size) (h2 : vs[2]? = some Value.none) (hQ : ∀ h', HeldY B (env :: outer) a oe.cls oe.dict (rawInt L) h' → s.heap.UpToSlots h' → Q () { s with heap := h' }) :
    wpAny M A (do let x ← frameOf env; let pl ← entryPlaceOf L more; let b ← EntryCells.newEntry head x .none (rawInt L) .none pl; setField (.ref a) 1 b) Q E s := by
  have nf : a ∉ (env :: outer).filterMap (·.frame) := fun hm => by
    obtain ⟨_, o, ho, hn⟩ := hl.mem hm
    rw [he] at ho; injection ho with ho; subst ho; exact hn vs hd
  refine wpAny_bind (wpAny_frameOf_fun hfr hl hf fun h1 k1 => ?_)
  refine wpAny_bind (wpAny_entryPlaceOf fun pl hp => ?_)
  unfold EntryCells.newEntry newFields
  refine wpAny_bind (wpAny_newObj_type ?_ (hp.sizeOk5 _ _ _ _ _))
  have e1 : h1.get? a = some oe := (k1.2.1 a nf).trans he
  have b1 : B.StaysIn h1 := fun b o q => (k1.2.1 b fun hm => by rw [(hl.mem hm).1] at q; cases q).trans (hkb b o q)
  refine wpAny_setField (Heap.get?_push_of_some _ e1) hd hz (hQ _ ?_ ?_)
  all_goals
    have ne : h1.objs.size ≠ a := Nat.ne_of_gt (Heap.lt_size e1)
    have d3 := Obj.data_mapFields hd (·.setIfInBounds 1 (Value.ref h1.objs.size))
    have far : ∀ b o, b ≠ a → h1.get? b = some o → ((h1.push { cls := .type "traceback", dict := none, data := .fields ([head, .ref L, .none, rawInt L, .none] ++ (if pl.isEmpty then List.replicate 6 Value.none else pl)).toArray }).update a (Obj.mapFields (·.setIfInBounds 1 (Value.ref h1.objs.size)))).get? b = some o :=
      fun b o hb q => by rw [Heap.get?_update_other _ _ (Ne.symm hb)]; exact Heap.get?_push_of_some _ q
  · refine ⟨fun b o q => far b o (fun z => by rw [z, hen] at q; cases q) (b1 b o q), hen, hl.of_keeps fun b o q n => ?_, ?_⟩
    · obtain ⟨sl, k⟩ := k1.2.2 b o q
      exact ⟨_, far b _ (not_fields he hd q n) k, rfl⟩
    · exact ⟨_, _, h1.objs.size, _, _, Heap.get?_update_self _ (Heap.get?_push_of_some _ e1) (Obj.isFreed_of_fields d3), ⟨Obj.cls_mapFields _ _, dict_mapF _ _, by rw [Array.getElem?_setIfInBounds_ne (by decide)]; exact h2⟩, d3, by simp [hz], b1.fresh, ne,
        (Heap.get?_update_other _ _ (Ne.symm ne)).trans (Heap.get?_push_size h1 rfl), rfl, by first | (simp; done) | (rcases hp with rfl | ⟨_, _, _, _, _, _, _, rfl⟩ <;> simp)⟩
  · intro b o q n
    obtain ⟨sl, k⟩ := k1.2.2 b o q
    exact ⟨sl, far b _ (not_fields he hd q n) k⟩
theorem air_look (hfr : A.frames = some (env :: outer)) (hf : env.frame = some L) (x : Air B (env :: outer) a cls s.heap)
    (hQ : ∀ h' dd, HeldY B (env :: outer) a cls dd (rawInt L) h' → s.heap.UpToSlots h' → Q () { s with heap := h' }) : wpAny M A (noteFrame (.ref a) env) Q E s := by
  obtain ⟨f1, f2, f3, ⟨dd, oe, vs, T, oT, ts, he, ⟨rfl, rfl, h2⟩, hd, h1, hB, hne, hT, hdT, h3⟩ | ⟨oe, vs, he, rfl, hd, h1, h2⟩⟩ := x
  · unfold noteFrame
    simp only [hf]
    refine wpAny_bind (wpAny_field he hd h1 ?_)
    rw [if_pos (by simp)]
    refine wpAny_bind (wpAny_field hT hdT h3 ?_)
    rw [if_neg (by simp [rawInt])]
    refine wpAny_bind (wpAny_setField hT hdT (Array.getElem?_eq_some_iff.mp h3).1 ?_)
    have far : ∀ b, b ≠ T → (s.heap.update T (Obj.mapFields (·.setIfInBounds 3 Value.none))).get? b = s.heap.get? b := fun b hb => Heap.get?_update_other _ _ (Ne.symm hb)
    refine entryY (s := { s with heap := s.heap.update T (Obj.mapFields (·.setIfInBounds 3 Value.none)) }) hfr (f3.of_keeps fun b o q n => ⟨o, (far b (not_fields hT hdT q n)).trans q, rfl⟩) hf ((far a (Ne.symm hne)).trans he) (fun b o q => (far b fun z => by rw [z, hB] at q; cases q).trans (f1 b o q)) f2 hd (Array.getElem?_eq_some_iff.mp h1).1 h2 fun h' w up => ?_
    exact hQ h' _ w fun b o q n => up b o ((far b (not_fields hT hdT q n)).trans q) n
  · unfold noteFrame
    simp only [hf]
    refine wpAny_bind (wpAny_field he hd h1 ?_)
    rw [if_neg (by decide)]
    exact entryY hfr f3 hf he f1 f2 hd (Array.getElem?_eq_some_iff.mp h1).1 h2 fun h' w up => hQ h' _ w up
theorem air_leave (hfr : A.frames = some (env :: outer)) (hf : env.frame = some L) (x : Air B (env :: outer) a cls s.heap)
    (hQ : ∀ h', Air B outer a cls h' → s.heap.UpToSlots h' → Q () { s with heap := h' }) : wpAny M A (leaving env (.ref a)) Q E s := by
  unfold leaving
  refine wpAny_bind (air_look hfr hf x fun h1 dd w up => landY (s := { s with heap := h1 }) w fun h2 w2 up2 => ?_)
  obtain ⟨k1, k2, ⟨_, _, k3⟩, k4⟩ := w2
  exact hQ h2 ⟨k1, k2, k3, .inl ⟨dd, k4⟩⟩ (up.trans up2)
end

def CX1 (P : Program) (w : World) : CXT := fun outer H s E e s' =>
  ∃ a C H' B, e = .ref a ∧ s'.os = s.os ∧ AllBare s'.gens ∧ Un (frs outer) [] H H' s.heap s'.heap ∧ HOk P w H' s'.heap ∧ Air B outer a C s'.heap ∧
    (∀ b o, s.heap.get? b = some o → b ∉ frs outer → ∃ o', B.get? b = some o') ∧ (∀ b u, H' b = some u → ∃ o', B.get? b = some o') ∧ E C none H'

theorem CX1.imp {P : Program} {w : World} {outer : List Env} {H : Hp} {s : Shared} {E E' : XK} {e : Value} {s' : Shared} (h : CX1 P w outer H s E e s') (k : ∀ C dx H', E C dx H' → E' C dx H') : CX1 P w outer H s E' e s' := by
  obtain ⟨a, C, H', B, h1, h2, h3, h4, h5, h6, h7, h8, h9⟩ := h
  exact ⟨a, C, H', B, h1, h2, h3, h4, h5, h6, h7, h8, k _ _ _ h9⟩

section
variable {X : Cx} {pins : List (Addr × Obj)} {σ : St} {H H' : Hp} {s s' : Shared} {B : Heap} {h' : Heap}
theorem hok_air (hok : HOk X.prog X.w H' s'.heap) (b1 : B.StaysIn s'.heap) (b2 : B.StaysIn h') (trk : ∀ b u, H' b = some u → ∃ o', B.get? b = some o') : HOk X.prog X.w H' h' := fun b u e =>
  (hok b u e).stay (fun c v hc q => by
    have : ∃ o', B.get? c = some o' := by
      rcases hc with rfl | hc
      · exact trk _ _ e
      · exact trk _ _ hc
    obtain ⟨o', e'⟩ := this
    have z := b1 c o' e'
    rw [q] at z; cases z
    exact b2 c _ e') (fun _ q => q) fun _ _ q => q
theorem un_air (I : Inv X pins σ H s) (hex : X.ex = []) (os : s'.os = s.os) (bare : AllBare s'.gens) (un : Un (frs X.stack) [] H H' s.heap s'.heap) (hok : HOk X.prog X.w H' s'.heap) (b1 : B.StaysIn s'.heap) (b2 : B.StaysIn h')
    (inB : ∀ b o, s.heap.get? b = some o → b ∉ frs X.stack → ∃ o', B.get? b = some o') (up : s'.heap.UpToSlots h') :
    Un X.fs [] X.H₀ H' X.s₀.heap h' ∧ ∀ b o, X.s₀.heap.get? b = some o → b ∉ X.fs → ∃ o', B.get? b = some o' := by
  have I' : Inv X pins σ H' s' := I.call' os un hok bare (fun b z => absurd z (by simp))
  have hb := I'.base
  rw [hex] at hb
  have hb0 := I.base
  rw [hex] at hb0
  have in0 : ∀ b o, X.s₀.heap.get? b = some o → b ∉ X.fs → ∃ o', B.get? b = some o' := fun b o e n => by
    obtain ⟨o1, e1⟩ := hb0.there b o e (by simp)
    refine inB b o1 e1 fun z => ?_
    rcases List.mem_cons.mp (I.stkSub b z) with z | z
    · exact absurd (Nat.lt_of_lt_of_le (Heap.lt_size e) I.ok.above) (by rw [z]; exact Nat.lt_irrefl _)
    · exact n z
  refine ⟨⟨fun b o e n hf hx => ?_, fun b o e n hf hx => ?_, fun b o e n hx => hb.free b o e n hx, fun b o e hx => ?_, hb.tups, hb.frzs, hb.tbls⟩, in0⟩
  · have e1 := hb.keep b o e n hf (by simp)
    obtain ⟨o', e'⟩ := in0 b o e hf
    have z := b1 b o' e'
    rw [e1] at z; cases z
    exact b2 b _ e'
  · obtain ⟨sl, e1⟩ := hb.slot b o e n hf (by simp)
    obtain ⟨_, o2, e2, nf⟩ := I.ok.funs.mem hf
    rw [e] at e2; cases e2
    obtain ⟨sl', e3⟩ := up b _ e1 nf
    exact ⟨sl', e3⟩
  · by_cases hf : b ∈ X.fs
    · obtain ⟨sl, e1⟩ := hb.slot b o e (I.ok.frf b hf) hf (by simp)
      obtain ⟨_, o2, e2, nf⟩ := I.ok.funs.mem hf
      rw [e] at e2; cases e2
      obtain ⟨sl', e3⟩ := up b _ e1 nf
      exact ⟨_, e3⟩
    · obtain ⟨o', e'⟩ := in0 b o e hf
      exact ⟨o', b2 b o' e'⟩
theorem pass_leave {E : XK} {e : Value} {Eb : Value → Shared → Prop} (I : Inv X pins σ H s) (hex : X.ex = []) (hst : X.stack = X.env :: X.outer) (hfr : X.env.frame = some X.env.locals)
    (h : CX1 X.prog X.w X.stack H s E e s') : wpAny (model X.prog X.w) X.A (leaving X.env e) (fun _ s'' => CX1 X.prog X.w X.outer X.H₀ X.s₀ E e s'') Eb s' := by
  obtain ⟨a, C, H', B, rfl, os, bare, un, hok, air, inB, trk, hE⟩ := h
  refine air_leave (by rw [I.ok.frames, hst]) hfr (by rw [← hst]; exact air) fun h' air' up => ?_
  obtain ⟨un', in0⟩ := un_air I hex os bare un hok air.1 air'.1 inB up
  exact ⟨a, C, H', B, rfl, os.trans I.os, bare, un', hok_air hok air.1 air'.1 trk, air', in0, trk, hE⟩
theorem Inv.landed (I : Inv X pins σ H s) (hex : X.ex = []) (os : s'.os = s.os) (bare : AllBare s'.gens) (un : Un (frs X.stack) [] H H' s.heap s'.heap) (hok : HOk X.prog X.w H' s'.heap) (b1 : B.StaysIn s'.heap) (b2 : B.StaysIn h')
    (inB : ∀ b o, s.heap.get? b = some o → b ∉ frs X.stack → ∃ o', B.get? b = some o') (trk : ∀ b u, H' b = some u → ∃ o', B.get? b = some o') (up : s'.heap.UpToSlots h') {t' : Nat} : Inv X pins σ H' { s' with heap := h', toks := t' } := by
  have I' : Inv X pins σ H' s' := I.call' os un hok bare (fun b z => absurd z (by simp))
  obtain ⟨un', in0⟩ := un_air I hex os bare un hok b1 b2 inB up
  have cl : ∀ {c v}, s'.heap.IsCell c v → h'.IsCell c v := fun {c v} ⟨o, ho, hd⟩ => by
    obtain ⟨sl, e⟩ := up c o ho (fun vs z => by rw [hd] at z; cases z)
    exact ⟨_, e, hd⟩
  refine ⟨I.ok, I'.os, bare, by rw [hex]; exact un', ?_, fun x c e => ?_, I'.free, I'.freeC, fun p hp => ?_, hok_air hok b1 b2 trk, I.len⟩
  · obtain ⟨m, hn, hl⟩ := I'.loc
    refine ⟨m, up.ns hn, fun i x v e1 e2 e3 => ?_⟩
    obtain ⟨u, r, l⟩ := hl i x v e1 e2 e3
    refine ⟨u, r, ?_⟩
    rcases l with l | ⟨k, c, e, z⟩
    · exact .inl l
    · exact .inr ⟨k, c, e, cl z⟩
  · obtain ⟨v, z⟩ := I'.cell x c e
    exact ⟨v, cl z⟩
  · obtain ⟨e, n, ne, nf, d⟩ := I.pin p hp
    obtain ⟨e', n', _, _, _⟩ := I'.pin p hp
    refine ⟨?_, n', ne, nf, d⟩
    obtain ⟨o', q⟩ := inB p.1 p.2 e fun z => by
      rcases List.mem_cons.mp (I.stkSub p.1 z) with z | z
      · exact ne z
      · exact nf z
    have z := b1 p.1 o' q
    rw [e'] at z; cases z
    exact b2 p.1 _ q
end

def ExcC (K : PySem.W.Frag) (C : Addr) : Prop := PySem.W.excIn K C [.type "ValueError", .type "Exception", .type "BaseException", .type "object"] "ValueError.__new__" = true

theorem excC_obj {K : PySem.W.Frag} {h : Heap} {C : Addr} (X : K.In h) (q : ExcC K C) :
    ∃ bm N nm qn bs hdct sn sub ab col dd k0 k1 k2 k3 k5 mN, h.get? C = some (excClassObj nm qn C N bs bm hdct sn sub ab col dd k0 k1 k2 k3 k5 "ValueError.__new__") ∧ h.Ns N mN ∧ mN "__init__" = none ∧
      OwnTail h [.type "ValueError", .type "Exception", .type "BaseException", .type "object"] bm := by
  unfold ExcC PySem.W.excIn at q
  split at q
  · rename_i dd cd sl ho
    split at q
    · rename_i C' bm k0 k1 k2 k3 n k5 hm hs
      simp only [Bool.and_eq_true, beq_iff_eq, Bool.not_eq_true'] at q
      obtain ⟨⟨⟨⟨⟨rfl, rfl⟩, hdel⟩, ht⟩, hok⟩, hni⟩ := q
      obtain ⟨nm, bs, mro, ns, qn, hd, sn, sub, ab, col, del⟩ := cd
      dsimp only at hm hdel hok hni
      subst hm hdel
      obtain rfl : sl = #[k0, k1, k2, k3, some (.builtin "ValueError.__new__"), k5] := by
        cases sl
        simp only at hs
        rw [hs]
      exact ⟨bm, ns, nm, qn, bs, hd, sn, sub, ab, col, dd, k0, k1, k2, k3, k5, _, X _ _ ho, .of_isNs (PySem.W.isNs_of_in X hok), PySem.W.nsMap_none_of_in X hok hni, PySem.W.tail_of_in X ht⟩
    · cases q
  · cases q

abbrev vMro : List Value := [.type "ValueError", .type "Exception", .type "BaseException", .type "object"]
def excB (K : PySem.W.Frag) (C : Addr) : Bool := match K.lookup C with
  | some ⟨.type "type", _, .cls cd, sl⟩ => (match cd.mro, sl.toList with
    | .ref C' :: bm, [_, _, _, _, some (.builtin n), _] => C' == C && n == "ValueError.__new__" && !cd.hasDel && PySem.W.tailIn K vMro bm
    | _, _ => false)
  | _ => false
theorem excB_obj {K : PySem.W.Frag} {h : Heap} {C : Addr} (X : K.In h) (q : excB K C = true) :
    ∃ bm N nm qn bs hdct sn sub ab col dd k0 k1 k2 k3 k5, h.get? C = some (excClassObj nm qn C N bs bm hdct sn sub ab col dd k0 k1 k2 k3 k5 "ValueError.__new__") ∧ OwnTail h vMro bm ∧ PySem.W.tailIn K vMro bm = true ∧
      ∃ cd, PySem.W.clsIn K C = some cd ∧ cd.mro = .ref C :: bm := by
  unfold excB at q
  split at q
  · rename_i dd cd sl ho
    split at q
    · rename_i C' bm k0 k1 k2 k3 n k5 hm hs
      simp only [Bool.and_eq_true, beq_iff_eq, Bool.not_eq_true'] at q
      obtain ⟨⟨⟨rfl, rfl⟩, hdel⟩, ht⟩ := q
      have hcl : PySem.W.clsIn K C' = some cd := by unfold PySem.W.clsIn; rw [ho]
      have hm0 := hm
      obtain ⟨nm, bs, mro, ns, qn, hd, sn, sub, ab, col, del⟩ := cd
      dsimp only at hm hdel
      subst hm hdel
      obtain rfl : sl = #[k0, k1, k2, k3, some (.builtin "ValueError.__new__"), k5] := by
        cases sl
        simp only at hs
        rw [hs]
      exact ⟨bm, ns, nm, qn, bs, hd, sn, sub, ab, col, dd, k0, k1, k2, k3, k5, X _ _ ho, PySem.W.tail_of_in X ht, ht, _, hcl, hm0⟩
    · cases q
  · cases q
def ExcK (K : PySem.W.Frag) (C : Addr) : Prop := excB K C = true
theorem ExcC.k {K : PySem.W.Frag} {C : Addr} (q : ExcC K C) : ExcK K C := by
  unfold ExcC PySem.W.excIn at q
  unfold ExcK excB
  split at q
  · rename_i dd cd sl ho
    rw [ho]
    split at q
    · rename_i C' bm k0 k1 k2 k3 n k5 hm hs
      simp only [Bool.and_eq_true] at q
      obtain ⟨⟨⟨⟨⟨q1, q2⟩, q3⟩, q4⟩, _⟩, _⟩ := q
      simp only [hm, hs, q1, q2, q3, q4, Bool.and_self]
    · cases q
  · cases q
section
variable {X : Cx} {pins : List (Addr × Obj)} {σ : St} {H : Hp} {s : Shared}
theorem air_new {h h1 : Heap} {a C : Addr} {vs : List Value} {l : List Env} {base : Heap} (hl : h.FunFrames base l) (hm : Heap.MadeExcOf h h1 a (.ref C) vs) : Air (PySem.W.hideAll h (frs l)) l a (.ref C) h1 := by
  obtain ⟨t, he, _, _⟩ := hm.there
  refine ⟨fun b o q => hm.keeps b o (PySem.W.of_hideAll _ q), ?_, ?_, .inr ⟨_, _, he, rfl, rfl, rfl, rfl⟩⟩
  · cases q : (PySem.W.hideAll h (frs l)).get? a with
    | none => rfl
    | some o =>
      have z := PySem.W.of_hideAll _ q
      rw [hm.new] at z; cases z
  · have k := PySem.W.funFrames_hide (as := frs l) hl fun env he a ha => List.mem_filterMap.mpr ⟨env, he, ha⟩
    exact k.of_keeps fun b o e _ => ⟨o, hm.keeps b o e, rfl⟩
theorem raise_ok {x : Str} {C : Addr} {np cpos pos : Pos} {e : Expr} {es : List Expr} {t : TA} {Q : Flow → Shared → Prop} {E : XK} (hg : Gl X x) (hm : X.mg x = some (.ref C)) (hC : ExcC X.K C) (ha : PA X (e :: es) t) (hh : X.calm = true)
    (I : Inv X pins σ H s) (h : t σ H fun vs H1 => vs.length ≤ sizeLine ∧ E (.ref C) none H1)
    (px : ∀ H1 s1 e s', Inv X pins σ H1 s1 → CX1 X.prog X.w X.stack H1 s1 (fun C' dx H' => C' = .ref C ∧ dx = none ∧ H' = H1 ∧ E (.ref C) none H1) e s' → X.xe e s')
    (hd : (x == ("__debug__" : Str)) = false := by decide) (he : starEach (e :: es) X.env = (false, eval e X.env) :: starEach es X.env := by rfl) (hpl : (backTo cpos (starEach es X.env)).any (·.1) = false := by rfl) :
    wpAny (model X.prog X.w) X.A (exec (.Raise (some (.Call (.Name x np) (e :: es) [] cpos)) none pos) X.env) Q X.xe s := by
  obtain ⟨bm, N, nm, qn, bs, hdct, sn, sub, ab, col, dd, k0, k1, k2, k3, k5, mN, e1, e2, e3, e4⟩ := excC_obj I.mod.kin hC
  refine wpAny_Raise_call_subT (C := C) (nm := nm) (q := qn) (N := N) (bs := bs) (bm := bm) (hdct := hdct) (sn := sn) (sub := sub) (ab := ab) (col := col) (dd := dd) (k0 := k0) (k1 := k1) (k2 := k2) (k3 := k3) (k5 := k5)
    PySem.F.excBase_ValueError (mN := mN) (e4.hasType PySem.F.excBase_ValueError.hasBase) (I.ok.hd hh) ?_ e3 (ld_glob I hg hm ⟨rfl, ?_⟩ hd)
  · rw [he]
    show (false || (backTo cpos (starEach es X.env)).any (·.1)) = false
    rw [hpl]; rfl
  · have key := ha cpos pins s σ H _ I h
    rw [he] at key ⊢
    refine Calls.evalArgs_plain (wpAny_mono key (fun us s2 ⟨vs, H1, I1, r, z, q⟩ => ⟨rfl, by rw [← r.length]; exact z, I1.bk _ _ e1, e2.keeps I1.bk, e4.keeps I1.bk, fun h' a hm => ?_⟩) fun _ _ y => y)
    refine px H1 s2 _ _ I1 ⟨a, .ref C, H1, PySem.W.hideAll s2.heap (frs X.stack), rfl, rfl, I1.bare, Un.kept hm.keeps, I1.hok.kept hm.keeps, air_new I1.stack hm, fun b o e n => ⟨o, PySem.W.hideAll_get _ e n⟩, fun b u e => ?_, rfl, rfl, rfl, q⟩
    obtain ⟨o, eo⟩ : ∃ o, s2.heap.get? b = some o := by
      have k := I1.hok b u e
      cases u with
      | lst xs => obtain ⟨_, _, _, _, e⟩ := k; exact ⟨_, e⟩
      | tup xs => obtain ⟨_, _, _, o, e, _⟩ := k; exact ⟨_, e⟩
      | dK kvs => obtain ⟨_, _, _, _, o, _, _, e, _⟩ := k; exact ⟨_, e⟩
      | dT kvs => obtain ⟨_, _, _, _, o, _, _, e, _⟩ := k; exact ⟨_, e⟩
      | set S n => obtain ⟨o, _, _, _, e, _⟩ := k; exact ⟨_, e⟩
      | ins C dx fs => obtain ⟨_, _, _, e, _⟩ := k; exact ⟨_, e⟩
      | own y => exact k
      | xd fs => obtain ⟨_, ⟨_, _, _, e, _⟩, _⟩ := k; exact ⟨_, e⟩
      | rng lo hi => obtain ⟨_, _, _, e⟩ := k; exact ⟨_, e⟩
      | frz ob u => obtain ⟨e, _⟩ := k; exact ⟨_, e⟩
      | tbl ps => exact ⟨_, (show s2.heap.get? b = some _ from k)⟩
      | met f y => exact ⟨_, (show s2.heap.get? b = some _ from k)⟩
      | ext φ => obtain ⟨_, e, _⟩ := k; exact e
    refine ⟨o, PySem.W.hideAll_get _ eo fun z => ?_⟩
    have := I1.stkFree b z
    rw [e] at this; cases this
end
end L3

namespace L3
open PySem PySem.Spec PyProof.Rows L2

abbrev G2 := List Slot
abbrev XW := G2 → Value → Prop
abbrev TE2 := G2 → (D → G2 → Prop) → XW → Prop
abbrev TF2 := G2 → (List D → G2 → Prop) → XW → Prop
abbrev TT2 := G2 → (Bool → G2 → Prop) → XW → Prop
structure End2 where
  nx : G2 → Prop
  rt : D → Prop
  bk : G2 → Prop := fun _ => False
  ct : G2 → Prop := fun _ => False
  rf : D → Prop := fun _ => False
  rT : T → Prop := fun _ => False
  rm : D → G2 → Prop := fun _ _ => False
abbrev TS2 := End2 → G2 → XW → Prop

open Classical in
noncomputable def lessL (F0 F : Hp) : Hp := fun b => if ∃ w, LD w ∧ F0 b = some w then none else F b
theorem lessL_sub {F0 F : Hp} : Same (lessL F0 F) F := fun b u e => by
  unfold lessL at e
  split at e
  · cases e
  · exact e
theorem lessL_not {F0 F : Hp} {b : Addr} (h : ∀ u, LD u → F0 b ≠ some u) : lessL F0 F b = F b := by
  unfold lessL
  rw [if_neg fun ⟨w, hw, q⟩ => h w hw q]
theorem lessL_of {F0 F : Hp} {b : Addr} {u : HO} (e : lessL F0 F b = some u) : ∀ w, LD w → F0 b ≠ some w := fun w hw q => by
  unfold lessL at e
  rw [if_pos ⟨w, hw, q⟩] at e; cases e
theorem lessL_anti {F0 F1 F : Hp} (s : Same F0 F1) : Same (lessL F1 F) (lessL F0 F) := fun b u e => by
  rw [lessL_not fun w hw q => lessL_of e w hw (s _ _ q)]
  exact lessL_sub _ _ e
section
variable (K : PySem.W.Frag) (F0 H0 : Hp)
def upE (t : TE2) (E : XW) : TE := fun σ H Q => ∃ F Γ P, SR K F0 H0 F H σ Γ ∧ t Γ P E ∧ ∀ d Γ' F' H' v, SR K F0 H0 F' H' σ Γ' → Same F F' → Rep K F' d v → P d Γ' → Q v H'
def upT (t : TT2) (E : XW) : TT := fun σ H Q => ∃ F Γ P, SR K F0 H0 F H σ Γ ∧ t Γ P E ∧ ∀ b Γ' F' H', SR K F0 H0 F' H' σ Γ' → Same F F' → P b Γ' → Q b H'
def upA (t : TF2) (E : XW) : TA := fun σ H Q => ∃ F Γ P, SR K F0 H0 F H σ Γ ∧ t Γ P E ∧ ∀ ds Γ' F' H' vs, SR K F0 H0 F' H' σ Γ' → Same F F' → Reps K F' ds vs → P ds Γ' → Q vs H'
def upF (t : TF2) (E : XW) : TE := fun σ H Q => ∃ F Γ P, SR K F0 H0 F H σ Γ ∧ t Γ P E ∧ ∀ ds Γ' F' H' a vs, SR K F0 H0 F' H' σ Γ' → Same F F' → H' a = some (.lst vs) → F' a = none → H0 a = none → Reps K F' ds vs → Apart σ Γ' a → P ds Γ' → Q (.ref a) H'
structure EndR (F : Hp) (D2 : End2) (D : Ends) : Prop where
  nx : ∀ Γ F' H σ, SR K F0 H0 F' H σ Γ → Same F F' → D2.nx Γ → D.nx σ H
  bk : ∀ Γ F' H σ, SR K F0 H0 F' H σ Γ → Same F F' → D2.bk Γ → D.bk σ H
  ct : ∀ Γ F' H σ, SR K F0 H0 F' H σ Γ → Same F F' → D2.ct Γ → D.ct σ H
  rt : ∀ d v F' H, Gr F0 H0 F' H → Rep K F' d v → D2.rt d → D.rt v H
  rf : ∀ d v F' H, Gr F0 H0 F' H → Rep K (lessL F0 F') d v → D2.rf d → D.rt v H
  rT : ∀ t v as F' H, Gr F0 H0 F' H → as.Nodup → (∀ a ∈ as, F' a = none ∧ H0 a = none) → TR K F' H t v as → D2.rT t → D.rt v H
  rm : ∀ d v Γ F' H σ, SR K F0 H0 F' H σ Γ → Rep K F' d v → D2.rm d Γ → D.rt v H
def upS (t : TS2) (E : XW) : TS := fun D σ H => ∃ F Γ D2, SR K F0 H0 F H σ Γ ∧ t D2 Γ E ∧ EndR K F0 H0 F D2 D
end
theorem EndR.mono {K : PySem.W.Frag} {F0 H0 F F' : Hp} {D2 : End2} {D : Ends} (k : EndR K F0 H0 F D2 D) (s : Same F F') : EndR K F0 H0 F' D2 D :=
  ⟨fun Γ F1 H σ R s1 h => k.nx Γ F1 H σ R (s.trans s1) h, fun Γ F1 H σ R s1 h => k.bk Γ F1 H σ R (s.trans s1) h, fun Γ F1 H σ R s1 h => k.ct Γ F1 H σ R (s.trans s1) h, k.rt, k.rf, k.rT, k.rm⟩

structure Wsh where
  xe : Value → Shared → Prop
  pn : List (Addr × Obj)
abbrev _root_.L2.Cx.wsh (X : Cx) (z : Wsh) : Cx := { X with xe := z.xe, pn := z.pn }
structure Ctx (X : Cx) (F0 H0 : Hp) (E : XW) : Prop where
  pX : ∀ pins σ Γ F H s e s', Inv X pins σ H s → SR X.K F0 H0 F H σ Γ → CX1 X.prog X.w X.stack H s (fun C dx H' => ∃ Γ' F', SR X.K F0 H0 F' H' σ Γ' ∧ Same F F' ∧ E Γ' C ∧ dx = none) e s' → X.xe e s'
  po : PassesOwn (model X.prog X.w) X.A X.env X.xe
theorem Ctx.px {X : Cx} {F0 H0 : Hp} {E : XW} (cx : Ctx X F0 H0 E) (pins : List (Addr × Obj)) (σ : St) (Γ : G2) (F H : Hp) (s : Shared) (e : Value) (s' : Shared) (I : Inv X pins σ H s) (R : SR X.K F0 H0 F H σ Γ) (hx : CX1 X.prog X.w X.stack H s (fun C dx H' => E Γ C ∧ dx = none ∧ Same H H') e s') : X.xe e s' :=
  cx.pX pins σ Γ F H s e s' I R (hx.imp fun _ _ H' ⟨h1, h2, h3⟩ => ⟨Γ, F, R.grow ⟨.refl _, R.g.trans h3, h3, fun b o e n => by rw [e] at n; cases n⟩, .refl _, h1, h2⟩)

def QE (X : Cx) (F0 H0 : Hp) (e : Expr) (t : TE2) : Prop := ∀ z E, Ctx (X.wsh z) F0 H0 E → PE (X.wsh z) e (upE X.K F0 H0 t E)
def QF (X : Cx) (F0 H0 : Hp) (e : Expr) (t : TF2) : Prop := ∀ z E, Ctx (X.wsh z) F0 H0 E → PE (X.wsh z) e (upF X.K F0 H0 t E)
def QT (X : Cx) (F0 H0 : Hp) (e : Expr) (t : TT2) : Prop := ∀ z E, Ctx (X.wsh z) F0 H0 E → PT (X.wsh z) e (upT X.K F0 H0 t E)
def QW (X : Cx) (F0 H0 : Hp) (e : Expr) (t : TT2) : Prop := ∀ z E, Ctx (X.wsh z) F0 H0 E → PW (X.wsh z) e (upT X.K F0 H0 t E)
def QA (X : Cx) (F0 H0 : Hp) (es : List Expr) (t : TF2) : Prop := ∀ z E, Ctx (X.wsh z) F0 H0 E → PA (X.wsh z) es (upA X.K F0 H0 t E)
def QS (X : Cx) (F0 H0 : Hp) (st : Stmt) (t : TS2) : Prop := ∀ z E, Ctx (X.wsh z) F0 H0 E → PS (X.wsh z) st (upS X.K F0 H0 t E)
def QSs (X : Cx) (F0 H0 : Hp) (st : List Stmt) (t : TS2) : Prop := ∀ z E, Ctx (X.wsh z) F0 H0 E → PSs (X.wsh z) st (upS X.K F0 H0 t E)

section
variable {X : Cx} {e : Expr} {es : List Expr} {st : Stmt} {sts : List Stmt}
theorem peC {t t' : TE} (h : PE X e t) (hi : ∀ σ H Q, t' σ H Q → t σ H Q) : PE X e t' := fun pins s σ H Q I q => h pins s σ H Q I (hi _ _ _ q)
theorem ptC {t t' : TT} (h : PT X e t) (hi : ∀ σ H Q, t' σ H Q → t σ H Q) : PT X e t' := fun pins s σ H Q I q => h pins s σ H Q I (hi _ _ _ q)
theorem pwC {t t' : TT} (h : PW X e t) (hi : ∀ σ H Q, t' σ H Q → t σ H Q) : PW X e t' := fun w pins s σ H Q I q => h w pins s σ H Q I (hi _ _ _ q)
theorem paC {t t' : TA} (h : PA X es t) (hi : ∀ σ H Q, t' σ H Q → t σ H Q) : PA X es t' := fun p pins s σ H Q I q => h p pins s σ H Q I (hi _ _ _ q)
theorem psC {t t' : TS} (h : PS X st t) (hi : ∀ D σ H, t' D σ H → t D σ H) : PS X st t' := fun pins s σ H D I q => h pins s σ H D I (hi _ _ _ q)
theorem pssC {t t' : TS} (h : PSs X sts t) (hi : ∀ D σ H, t' D σ H → t D σ H) : PSs X sts t' := fun pins s σ H D I q => h pins s σ H D I (hi _ _ _ q)
end

section
variable {X : Cx} {F0 H0 : Hp} {a b c e : Expr} {es : List Expr} {pos : Pos} {ta tb tc te : TE2}

def cC (d : D) : TE2 := fun Γ P _ => P d Γ
theorem qe_const {d : D} {v : V} (h : ∀ z, PE (X.wsh z) e (tC v)) (r : ∀ F, Rep X.K F d v) : QE X F0 H0 e (cC d) := fun z E cx =>
  peC (h z) fun σ H Q hq1 => by obtain ⟨F, Γ, P, R, h, k⟩ := hq1; exact k _ _ _ _ _ R (.refl _) (r F) h
theorem qe_int {i j pos} : QE X F0 H0 (.Constant (.int i) j pos) (cC (.int i)) := qe_const (fun _ => pe_int) fun _ => by unfold Rep; rfl
theorem qe_bl {i j pos} : QE X F0 H0 (.Constant (.bool i) j pos) (cC (.bl i)) := qe_const (fun _ => pe_bl) fun _ => by unfold Rep; rfl
theorem qe_non {j pos} : QE X F0 H0 (.Constant .none j pos) (cC .non) := qe_const (fun _ => pe_non) fun _ => by unfold Rep; rfl
theorem qe_str {x j pos} : QE X F0 H0 (.Constant (.str x) j pos) (cC (.str x)) := qe_const (fun _ => pe_str) fun _ => by unfold Rep; rfl
def cV (i : Nat) : TE2 := fun Γ P _ => match Γ[i]? with
  | some (.pu d) => P d Γ
  | some (.ow ds) => P (.lst ds) (Γ.set i (.pu (.lst ds)))
  | _ => False
theorem qe_var {i : Nat} {x : Str} (hN : X.N[i]? = some x) (hv : Vis X.env.scope x) (hd : (x == ("__debug__" : Str)) = false := by decide) (hcd : (x == ("__classdict__" : Str)) = false := by decide) : QE X F0 H0 (.Name x pos) (cV i) := fun z E cx =>
  peC (pe_var (X := X.wsh z) (i := i) hN hv hd hcd) fun σ H Q hq2 => by
    obtain ⟨F, Γ, P, R, h, k⟩ := hq2
    unfold cV at h
    split at h
    · rename_i d e
      obtain ⟨o, e1, v, rfl, r⟩ := R.sl i _ e
      exact ⟨v, e1, k d Γ F H v R (.refl _) r h⟩
    · rename_i ds e
      obtain ⟨a, F', e1, s1, R', r⟩ := R.frz e
      exact ⟨.ref a, e1, k _ _ F' H _ R' s1 r h⟩
    · exact h.elim

def rUp (K : PySem.W.Frag) (g : D → D → (D → Prop) → Prop) : R2 := fun x y H Q => ∃ F d1 d2 P, Same F H ∧ Rep K F d1 x ∧ Rep K F d2 y ∧ g d1 d2 P ∧ ∀ d z F' H', Gr F H F' H' → Rep K F' d z → P d → Q z H'
def cB (g : D → D → (D → Prop) → Prop) (ta tb : TE2) : TE2 := fun Γ P E => ta Γ (fun d1 Γ1 => tb Γ1 (fun d2 Γ2 => g d1 d2 fun d => P d Γ2) E) E
theorem cB_up {K : PySem.W.Frag} {g : D → D → (D → Prop) → Prop} {E : XW} {σ : St} {H : Hp} {Q : VK} (h : upE K F0 H0 (cB g ta tb) E σ H Q) : tOp (rUp K g) (upE K F0 H0 ta E) (upE K F0 H0 tb E) σ H Q := by
  obtain ⟨F, Γ, P, R, h, k⟩ := h
  refine ⟨F, Γ, _, R, h, fun d1 Γ1 F1 H1 v1 R1 s1 r1 h1 => ⟨F1, Γ1, _, R1, h1, fun d2 Γ2 F2 H2 v2 R2 s2 r2 h2 => ⟨F2, d1, d2, _, R2.g, r1.up s2, r2, h2, fun d z F' H' gr rz hp => ?_⟩⟩⟩
  exact k d Γ2 F' H' z (R2.grow gr) (s1.trans (s2.trans gr.f)) rz hp
theorem qe_bin {op : Operator} {g : D → D → (D → Prop) → Prop} (ho : ∀ z, OpR (X.wsh z) (binaryOp op) (rUp X.K g)) (ha : QE X F0 H0 a ta) (hb : QE X F0 H0 b tb) : QE X F0 H0 (.BinOp a op b pos) (cB g ta tb) := fun z E cx =>
  peC (pe_op (ho z) (ha z E cx) (hb z E cx)) fun _ _ _ h => cB_up h
theorem qe_cmp {op : CmpOp} {g : D → D → (D → Prop) → Prop} (ho : ∀ z, OpR (X.wsh z) (compareOp op) (rUp X.K g)) (ha : QE X F0 H0 a ta) (hb : QE X F0 H0 b tb) (hm : behindInMarks op b = false) : QE X F0 H0 (.Compare a [op] [b] pos) (cB g ta tb) := fun z E cx =>
  peC (pe_cmpR (ho z) (ha z E cx) (hb z E cx) hm) fun _ _ _ h => cB_up h
def cT (t : TE2) : TT2 := fun Γ P E => t Γ (fun d Γ' => match d with | .bl c => P c Γ' | _ => False) E
theorem cT_up {K : PySem.W.Frag} {E : XW} {σ : St} {H : Hp} {Q : Bool → Hp → Prop} (h : upT K F0 H0 (cT te) E σ H Q) : upE K F0 H0 te E σ H fun x H' => ∃ c, x = .bl c ∧ Q c H' := by
  obtain ⟨F, Γ, P, R, h, k⟩ := h
  refine ⟨F, Γ, _, R, h, fun d Γ' F' H' v R' s' r q => ?_⟩
  cases d with
  | bl c =>
    unfold Rep at r
    exact ⟨c, r, k c Γ' F' H' R' s' q⟩
  | _ => exact False.elim q
theorem qt_cmp {op : CmpOp} {g : D → D → (D → Prop) → Prop} (ho : ∀ z, OpR (X.wsh z) (compareOp op) (rUp X.K g)) (ha : QE X F0 H0 a ta) (hb : QE X F0 H0 b tb) (hm : behindInMarks op b = false) : QT X F0 H0 (.Compare a [op] [b] pos) (cT (cB g ta tb)) := fun z E cx =>
  ptC (pt_cmpR (ho z) (ha z E cx) (hb z E cx) hm) fun σ H Q h => cB_up (cT_up h)
theorem qt_val (h : QE X F0 H0 e te) (he : ∀ whole, isTrue e X.env whole = (do let v ← whole; standAt e.pos; holding [v] (truthy v)) := by intro _; rfl) : QT X F0 H0 e (cT te) := fun z E cx =>
  ptC (pt_val (X := X.wsh z) (h z E cx) he) fun _ _ _ h => cT_up h

def cAnd (t u : TT2) : TT2 := fun Γ P E => t Γ (fun c Γ' => if c = true then u Γ' P E else P false Γ') E
def cOr (t u : TT2) : TT2 := fun Γ P E => t Γ (fun c Γ' => if c = true then P true Γ' else u Γ' P E) E
def cNot (t : TT2) : TT2 := fun Γ P E => t Γ (fun c Γ' => P (!c) Γ') E
variable {rest : List Expr} {tA tB' : TT2}
theorem qw_and1 (ha : QT X F0 H0 a tA) : QW X F0 H0 (.BoolOp .And [a] pos) tA := fun z E cx => pw_and1 (ha z E cx)
theorem qw_or1 (ha : QT X F0 H0 a tA) : QW X F0 H0 (.BoolOp .Or [a] pos) tA := fun z E cx => pw_or1 (ha z E cx)
theorem qw_and (ha : QT X F0 H0 a tA) (hb : QW X F0 H0 (.BoolOp .And (b :: rest) pos) tB') : QW X F0 H0 (.BoolOp .And (a :: b :: rest) pos) (cAnd tA tB') := fun z E cx =>
  pwC (pw_and (ha z E cx) (hb z E cx)) fun σ H Q hq3 => by obtain ⟨F, Γ, P, R, h, k⟩ := hq3; exact ⟨F, Γ, _, R, h, fun c Γ1 F1 H1 R1 s1 q => by
    cases c with
    | true =>
      simp only [if_true] at q ⊢
      exact ⟨F1, Γ1, P, R1, q, fun b Γ2 F2 H2 R2 s2 p => k b Γ2 F2 H2 R2 (s1.trans s2) p⟩
    | false =>
      simp only [Bool.false_eq_true, if_false] at q ⊢
      exact k _ _ _ _ R1 s1 q⟩
theorem qw_or (ha : QT X F0 H0 a tA) (hb : QW X F0 H0 (.BoolOp .Or (b :: rest) pos) tB') : QW X F0 H0 (.BoolOp .Or (a :: b :: rest) pos) (cOr tA tB') := fun z E cx =>
  pwC (pw_or (ha z E cx) (hb z E cx)) fun σ H Q hq4 => by obtain ⟨F, Γ, P, R, h, k⟩ := hq4; exact ⟨F, Γ, _, R, h, fun c Γ1 F1 H1 R1 s1 q => by
    cases c with
    | true =>
      simp only [if_true] at q ⊢
      exact k _ _ _ _ R1 s1 q
    | false =>
      simp only [Bool.false_eq_true, if_false] at q ⊢
      exact ⟨F1, Γ1, P, R1, q, fun b Γ2 F2 H2 R2 s2 p => k b Γ2 F2 H2 R2 (s1.trans s2) p⟩⟩
theorem qt_w (h : QW X F0 H0 e tA) : QT X F0 H0 e tA := fun z E cx => (h z E cx).pt
theorem qt_not (ha : QT X F0 H0 a tA) : QT X F0 H0 (.UnaryOp .Not a pos) (cNot tA) := fun z E cx =>
  ptC (pt_not (ha z E cx)) fun σ H Q hq5 => by obtain ⟨F, Γ, P, R, h, k⟩ := hq5; exact ⟨F, Γ, _, R, h, fun c Γ1 F1 H1 R1 s1 q => k _ _ _ _ R1 s1 q⟩
def cAndV (ta tb : TE2) : TE2 := fun Γ P E => ta Γ (fun d Γ' => match d with | .bl true => tb Γ' P E | .bl false => P (.bl false) Γ' | _ => False) E
def cOrV (ta tb : TE2) : TE2 := fun Γ P E => ta Γ (fun d Γ' => match d with | .bl false => tb Γ' P E | .bl true => P (.bl true) Γ' | _ => False) E
def cNotV (ta : TE2) : TE2 := fun Γ P E => ta Γ (fun d Γ' => match d with | .bl c => P (.bl (!c)) Γ' | _ => False) E
theorem qe_one {op} (h : QE X F0 H0 a ta) : QE X F0 H0 (.BoolOp op [a] pos) ta := fun z E cx => pe_one (h z E cx)
theorem qe_and (ha : QE X F0 H0 a ta) (hb : QE X F0 H0 (.BoolOp .And (b :: rest) pos) tb) : QE X F0 H0 (.BoolOp .And (a :: b :: rest) pos) (cAndV ta tb) := fun z E cx =>
  peC (pe_and (ha z E cx) (hb z E cx)) fun σ H Q hq6 => by obtain ⟨F, Γ, P, R, h, k⟩ := hq6; exact ⟨F, Γ, _, R, h, fun d Γ1 F1 H1 v R1 s1 r q => by
    cases d with
    | bl c =>
      unfold Rep at r
      refine ⟨c, r, ?_⟩
      cases c with
      | true => rw [if_pos rfl]; exact ⟨F1, Γ1, P, R1, q, fun d Γ2 F2 H2 v R2 s2 r p => k d Γ2 F2 H2 v R2 (s1.trans s2) r p⟩
      | false => rw [if_neg Bool.false_ne_true]; exact k _ _ _ _ _ R1 s1 (by unfold Rep; rfl) q
    | _ => exact False.elim q⟩
theorem qe_not (ha : QE X F0 H0 a ta) : QE X F0 H0 (.UnaryOp .Not a pos) (cNotV ta) := fun z E cx =>
  peC (pe_not (ha z E cx)) fun σ H Q hq8 => by obtain ⟨F, Γ, P, R, h, k⟩ := hq8; exact ⟨F, Γ, _, R, h, fun d Γ1 F1 H1 v R1 s1 r q => by
    cases d with
    | bl c =>
      unfold Rep at r
      exact ⟨c, r, k _ _ _ _ _ R1 s1 (by unfold Rep; rfl) q⟩
    | _ => exact False.elim q⟩
def cIf (t : TT2) (ta tb : TE2) : TE2 := fun Γ P E => t Γ (fun c Γ' => if c = true then ta Γ' P E else tb Γ' P E) E
def cNil : TF2 := fun Γ P _ => P [] Γ
def cCons (t : TE2) (u : TF2) : TF2 := fun Γ P E => t Γ (fun d Γ1 => u Γ1 (fun ds Γ2 => P (d :: ds) Γ2) E) E
theorem qa_nil : QA X F0 H0 [] cNil := fun z E cx => paC pa_nil fun σ H Q hq10 => by obtain ⟨F, Γ, P, R, h, k⟩ := hq10; exact k _ _ _ _ _ R (.refl _) (by unfold Reps; rfl) h
theorem qa_cons {tr : TF2} (ha : QE X F0 H0 e te) (hr : QA X F0 H0 es tr) (hs : starEach (e :: es) X.env = (false, eval e X.env) :: starEach es X.env := by rfl) : QA X F0 H0 (e :: es) (cCons te tr) := fun z E cx =>
  paC (pa_cons (X := X.wsh z) (ha z E cx) (hr z E cx) hs) fun σ H Q ⟨F, Γ, P, R, h, k⟩ =>
    ⟨F, Γ, _, R, h, fun d Γ1 F1 H1 v1 R1 s1 r1 h1 => ⟨F1, Γ1, _, R1, h1, fun ds Γ2 F2 H2 vs R2 s2 r2 h2 => k _ _ _ _ _ R2 (s1.trans s2) (reps_cons (r1.up s2) r2) h2⟩⟩
def cTup (t : TF2) : TE2 := fun Γ P E => t Γ (fun ds Γ1 => ds.length ≤ sizeLine ∧ P (.tup ds) Γ1) E
theorem qe_tup {x1} {t : TF2} (h : QA X F0 H0 es t) : QE X F0 H0 (.Tuple es x1 pos) (cTup t) := fun z E cx =>
  peC (pe_tup (h z E cx)) fun σ H Q hq12 => by obtain ⟨F, Γ, P, R, h, k⟩ := hq12; exact ⟨F, Γ, _, R, h, fun ds Γ1 F1 H1 vs R1 s1 r1 h1 => ⟨by rw [← reps_len r1]; exact h1.1, fun p hp => by
    have gr := Gr.laid (o := HO.tup vs) R1.g hp
    refine k _ _ _ _ _ (R1.grow gr) (s1.trans gr.f) ?_ h1.2
    unfold Rep
    exact ⟨p, vs, rfl, .inl (.inl upd_same), r1.up gr.f⟩⟩⟩
def fLst (t : TF2) : TF2 := fun Γ P E => t Γ (fun ds Γ1 => ds.length ≤ sizeLine ∧ P ds Γ1) E
theorem new_lst {K : PySem.W.Frag} {F H : Hp} {σ : St} {Γ : G2} {p : Addr} {vs : List V} {ds : List D} (R : SR K F0 H0 F H σ Γ) (hp : H p = none) (r : Reps K F ds vs) :
    SR K F0 H0 F (L2.upd H p (.lst vs)) σ Γ ∧ (L2.upd H p (.lst vs)) p = some (.lst vs) ∧ F p = none ∧ H0 p = none ∧ Apart σ Γ p := by
  refine ⟨?_, upd_same, R.g.free hp, R.gr.h.free hp, R.apart hp⟩
  refine R.grow ⟨.refl _, fun b u e => ?_, fun b u e => ?_, fun b o e n => by rw [e] at n; cases n⟩
  · rw [upd_ne (ne_of_none (R.g b u e) hp)]; exact R.g b u e
  · rw [upd_ne (ne_of_none e hp)]; exact e
theorem qf_lst {t : TF2} (h : QA X F0 H0 es t) : QF X F0 H0 (.List es pos) (fLst t) := fun z E cx =>
  peC (pe_lst (h z E cx)) fun σ H Q hq13 => by obtain ⟨F, Γ, P, R, h, k⟩ := hq13; exact ⟨F, Γ, _, R, h, fun ds Γ1 F1 H1 vs R1 s1 r1 h1 => ⟨by rw [← reps_len r1]; exact h1.1, fun p hp => by
    obtain ⟨R2, e1, e2, e3, ap⟩ := new_lst R1 hp r1
    exact k ds Γ1 F1 _ p vs R2 s1 e1 e2 e3 r1 ap h1.2⟩⟩
def cOf (t : TF2) : TE2 := fun Γ P E => t Γ (fun ds Γ1 => P (.lst ds) Γ1) E
theorem qe_of {t : TF2} (h : QF X F0 H0 e t) : QE X F0 H0 e (cOf t) := fun z E cx =>
  peC (h z E cx) fun σ H Q hq14 => by obtain ⟨F, Γ, P, R, h, k⟩ := hq14; exact ⟨F, Γ, _, R, h, fun ds Γ1 F1 H1 a vs R1 s1 e1 e2 e3 r1 ap h1 => by
    obtain ⟨s2, _⟩ := frz_gr R1.g e1 e2
    refine k _ _ _ _ _ (R1.frzA e1 e2 e3 ap) (s1.trans s2) ?_ h1
    unfold Rep
    exact ⟨a, vs, rfl, .inl (.inl upd_same), r1.up s2⟩⟩

variable {st : Stmt} {sts : List Stmt} {t u : TS2}
def cNext : TS2 := fun D Γ _ => D.nx Γ
def cSeq (t u : TS2) : TS2 := fun D Γ E => t { D with nx := fun Γ' => u D Γ' E } Γ E
theorem qss_nil : QSs X F0 H0 [] cNext := fun z E cx => pssC pss_nil fun D σ H hq15 => by obtain ⟨F, Γ, D2, R, h, k⟩ := hq15; exact k.nx _ _ _ _ R (.refl _) h
theorem qss_cons (h1 : QS X F0 H0 st t) (h2 : QSs X F0 H0 sts u) : QSs X F0 H0 (st :: sts) (cSeq t u) := fun z E cx =>
  pssC (pss_cons (h1 z E cx) (h2 z E cx)) fun D σ H hq16 => by obtain ⟨F, Γ, D2, R, h, k⟩ := hq16; exact ⟨F, Γ, _, R, h, ⟨fun Γ' F' H' σ' R' s' q => ⟨F', Γ', D2, R', q, k.mono s'⟩, k.bk, k.ct, k.rt, k.rf, k.rT, k.rm⟩⟩
theorem qss_one (h1 : QS X F0 H0 st t) : QSs X F0 H0 [st] t := fun z E cx => pss_one (h1 z E cx)
def cBrk : TS2 := fun D Γ _ => D.bk Γ
def cCnt : TS2 := fun D Γ _ => D.ct Γ
def cDrop (te : TE2) : TS2 := fun D Γ E => te Γ (fun _ Γ1 => D.nx Γ1) E
theorem qs_expr (he : QE X F0 H0 e te) (hs : swapsWith e none pos.line X.env = pure false := by rfl) : QS X F0 H0 (.Expr e pos) (cDrop te) := fun z E cx =>
  psC (ps_expr (X := X.wsh z) (he z E cx) hs) fun D σ H hq20 => by obtain ⟨F, Γ, D2, R, h, k⟩ := hq20; exact ⟨F, Γ, _, R, h, fun d Γ1 F1 H1 v R1 s1 r1 h1 => k.nx _ _ _ _ R1 s1 h1⟩
def cRet (te : TE2) : TS2 := fun D Γ E => te Γ (fun d _ => D.rt d) E
theorem qs_ret (he : QE X F0 H0 e te) : QS X F0 H0 (.Return (some e) pos) (cRet te) := fun z E cx =>
  psC (ps_ret (he z E cx)) fun D σ H hq21 => by obtain ⟨F, Γ, D2, R, h, k⟩ := hq21; exact ⟨F, Γ, _, R, h, fun d Γ1 F1 H1 v R1 s1 r1 h1 => k.rt _ _ _ _ R1.gr r1 h1⟩
def cRetN : TS2 := fun D _ _ => D.rt .non
def cIfS (c : TT2) (t u : TS2) : TS2 := fun D Γ E => c Γ (fun b Γ1 => if b = true then t D Γ1 E else u D Γ1 E) E
theorem qs_if {x y : List Stmt} (hc : QT X F0 H0 c tA) (ha : QSs X F0 H0 x t) (hb : QSs X F0 H0 y u) : QS X F0 H0 (.If c x y pos) (cIfS tA t u) := fun z E cx =>
  psC (ps_if (hc z E cx) (ha z E cx) (hb z E cx)) fun D σ H hq23 => by obtain ⟨F, Γ, D2, R, h, k⟩ := hq23; exact ⟨F, Γ, _, R, h, fun c Γ1 F1 H1 R1 s1 q => by
    cases c with
    | true => rw [if_pos rfl] at q ⊢; exact ⟨F1, Γ1, D2, R1, q, k.mono s1⟩
    | false => rw [if_neg Bool.false_ne_true] at q ⊢; exact ⟨F1, Γ1, D2, R1, q, k.mono s1⟩⟩
def cNever : TS2 := fun _ _ _ => False
def cSet (i : Nat) (te : TE2) : TS2 := fun D Γ E => te Γ (fun d Γ1 => D.nx (Γ1.set i (.pu d))) E
theorem qs_set {i : Nat} {x : Str} {pos' : Pos} (hN : X.N.Nodup) (hi : X.N[i]? = some x) (hx : Loc X.env.scope x) (he : QE X F0 H0 e te) (hs : swapsWith e (some (.Name x pos')) pos.line X.env = pure false := by rfl)
    (hf : X.fn x = true ∨ X.env.scope.names.lookup x = some .local := by first | exact .inl rfl | exact .inr rfl) : QS X F0 H0 (.Assign [.Name x pos'] e pos) (cSet i te) := fun z E cx =>
  psC (ps_set (X := X.wsh z) (i := i) hN hi hx (he z E cx) hs hf) fun D σ H hq26 => by obtain ⟨F, Γ, D2, R, h, k⟩ := hq26; exact ⟨F, Γ, _, R, h, fun d Γ1 F1 H1 v R1 s1 r1 h1 => k.nx _ _ _ _ (R1.set i r1) s1 h1⟩
def cSetF (i : Nat) (t : TF2) : TS2 := fun D Γ E => t Γ (fun ds Γ1 => D.nx (Γ1.set i (.ow ds))) E
theorem qs_setF {i : Nat} {x : Str} {pos' : Pos} {tf : TF2} (hN : X.N.Nodup) (hi : X.N[i]? = some x) (hx : Loc X.env.scope x) (he : QF X F0 H0 e tf) (hs : swapsWith e (some (.Name x pos')) pos.line X.env = pure false := by rfl)
    (hf : X.fn x = true ∨ X.env.scope.names.lookup x = some .local := by first | exact .inl rfl | exact .inr rfl) : QS X F0 H0 (.Assign [.Name x pos'] e pos) (cSetF i tf) := fun z E cx =>
  psC (ps_set (X := X.wsh z) (i := i) hN hi hx (he z E cx) hs hf) fun D σ H hq27 => by obtain ⟨F, Γ, D2, R, h, k⟩ := hq27; exact ⟨F, Γ, _, R, h, fun ds Γ1 F1 H1 a vs R1 s1 e1 e2 e3 r1 ap h1 => k.nx _ _ _ _ (R1.setOw i e1 e2 e3 r1 ap) s1 h1⟩
end
end L3

namespace L3
open PySem PySem.Spec PyProof.Rows L2

abbrev TG2 := D → G2 → (G2 → Prop) → XW → Prop
abbrev TGs2 := List D → G2 → (G2 → Prop) → XW → Prop
section
variable (K : PySem.W.Frag) (F0 H0 : Hp)
def upG (g : TG2) (E : XW) : TG := fun v σ H Q => ∃ F Γ P d, SR K F0 H0 F H σ Γ ∧ Rep K F d v ∧ g d Γ P E ∧ ∀ Γ' F' H' σ', SR K F0 H0 F' H' σ' Γ' → Same F F' → P Γ' → Q σ' H'
def upGs (g : TGs2) (E : XW) : TGs := fun vs σ H Q => ∃ F Γ P ds, SR K F0 H0 F H σ Γ ∧ Reps K F ds vs ∧ g ds Γ P E ∧ ∀ Γ' F' H' σ', SR K F0 H0 F' H' σ' Γ' → Same F F' → P Γ' → Q σ' H'
end
def QG (X : Cx) (F0 H0 : Hp) (e : Expr) (g : TG2) : Prop := ∀ z E, Ctx (X.wsh z) F0 H0 E → PG (X.wsh z) e (upG X.K F0 H0 g E)
def QGs (X : Cx) (F0 H0 : Hp) (es : List Expr) (g : TGs2) : Prop := ∀ z E, Ctx (X.wsh z) F0 H0 E → PGs (X.wsh z) es (upGs X.K F0 H0 g E)
section
variable {X : Cx} {F0 H0 : Hp} {e tg : Expr} {es : List Expr} {pos : Pos} {te : TE2} {g : TG2} {gs : TGs2}
theorem pgC {t t' : TG} (h : PG X e t) (hi : ∀ v σ H Q, t' v σ H Q → t v σ H Q) : PG X e t' := fun pins s σ H v u Q I r q => h pins s σ H v u Q I r (hi _ _ _ _ q)
theorem pgsC {t t' : TGs} (h : PGs X es t) (hi : ∀ v σ H Q, t' v σ H Q → t v σ H Q) : PGs X es t' := fun pins s σ H v u Q I r q => h pins s σ H v u Q I r (hi _ _ _ _ q)
def hName (i : Nat) : TG2 := fun d Γ Q _ => Q (Γ.set i (.pu d))
theorem qg_name {i : Nat} {x : Str} (hN : X.N.Nodup) (hi : X.N[i]? = some x) (hx : Loc X.env.scope x) (hf : X.fn x = true ∨ X.env.scope.names.lookup x = some .local := by first | exact .inl rfl | exact .inr rfl) : QG X F0 H0 (.Name x pos) (hName i) := fun z E cx =>
  pgC (pg_name (X := X.wsh z) (i := i) hN hi hx hf) fun v σ H Q hq1 => by obtain ⟨F, Γ, P, d, R, r, h, k⟩ := hq1; exact k _ _ _ _ (R.set i r) (.refl _) h
def hNil : TGs2 := fun ds Γ Q _ => ds = [] ∧ Q Γ
def hCons (g : TG2) (gs : TGs2) : TGs2 := fun ds Γ Q E => match ds with | d :: r => g d Γ (fun Γ' => gs r Γ' Q E) E | [] => False
theorem qgs_nil : QGs X F0 H0 [] hNil := fun z E cx => pgsC pgs_nil fun vs σ H Q hq2 => by
  obtain ⟨F, Γ, P, ds, R, r, h, k⟩ := hq2
  obtain ⟨rfl, h⟩ := h
  unfold Reps at r
  exact ⟨r, k _ _ _ _ R (.refl _) h⟩
theorem qgs_cons (h1 : QG X F0 H0 e g) (h2 : QGs X F0 H0 es gs) (hs : (assignEach (e :: es) X.env).map (·.2) = assign e X.env :: (assignEach es X.env).map (·.2) := by rfl) : QGs X F0 H0 (e :: es) (hCons g gs) := fun z E cx =>
  pgsC (pgs_cons (X := X.wsh z) (h1 z E cx) (h2 z E cx) hs) fun vs σ H Q hq3 => by
    obtain ⟨F, Γ, P, ds, R, r, h, k⟩ := hq3
    cases ds with
    | nil => exact False.elim h
    | cons d ds =>
      unfold Reps at r
      obtain ⟨v, us, rfl, r1, r2⟩ := r
      exact ⟨v, us, rfl, F, Γ, _, d, R, r1, h, fun Γ1 F1 H1 σ1 R1 s1 q => ⟨F1, Γ1, P, ds, R1, r2.up s1, q, fun Γ2 F2 H2 σ2 R2 s2 p => k _ _ _ _ R2 (s1.trans s2) p⟩⟩
def hTup (n : Nat) (gs : TGs2) : TG2 := fun d Γ Q E => match d with | .tup ds => ds.length = n ∧ gs ds Γ Q E | _ => False
theorem qg_tup {k n : Nat} (hc : X.calm = true) (h : QGs X F0 H0 es gs) (hn : (assignEach es X.env).length = n := by rfl) (hst : (assignEach es X.env).findIdx? (·.1) = none := by rfl) : QG X F0 H0 (.Tuple es k pos) (hTup n gs) := fun z E cx =>
  pgC (pg_tup (X := X.wsh z) (n := n) hc (h z E cx) hn hst) fun v σ H Q hq4 => by
    obtain ⟨F, Γ, P, d, R, r, h, k⟩ := hq4
    cases d with
    | tup ds =>
      unfold Rep at r
      obtain ⟨a, vs, rfl, hq, rs⟩ := r
      exact ⟨a, vs, rfl, sqT_mono R.g hq, by rw [← reps_len rs]; exact h.1, F, Γ, P, ds, R, rs, h.2, k⟩
    | _ => exact False.elim h
def cAsg (te : TE2) (g : TG2) : TS2 := fun D Γ E => te Γ (fun d Γ1 => g d Γ1 D.nx E) E
theorem qs_asg (he : QE X F0 H0 e te) (hg : QG X F0 H0 tg g) (hs : swapsWithSole [tg] e pos.line X.env = pure false := by rfl) (hw : swappedStores [tg] e X.env = pure none := by rfl)
    (h1 : (assignEach [tg] X.env).map (·.2) = [assign tg X.env] := by rfl) : QS X F0 H0 (.Assign [tg] e pos) (cAsg te g) := fun z E cx =>
  psC (ps_asg (X := X.wsh z) (he z E cx) (hg z E cx) hs hw h1) fun D σ H hq5 => by obtain ⟨F, Γ, D2, R, h, k⟩ := hq5; exact ⟨F, Γ, _, R, h, fun d Γ1 F1 H1 v R1 s1 r1 h1 => ⟨F1, Γ1, _, d, R1, r1, h1, fun Γ2 F2 H2 σ2 R2 s2 p => k.nx _ _ _ _ R2 (s1.trans s2) p⟩⟩
def cPar (i j : Nat) (t : TF2) : TS2 := fun D Γ E => t Γ (fun ds Γ1 => match ds with | [x, y] => D.nx ((Γ1.set i (.pu x)).set j (.pu y)) | _ => False) E
def cWhile (c : TT2) (tb : TS2) : TS2 := fun D Γ E => ∃ W : Nat → G2 → Prop, (∃ m, W m Γ) ∧ ∀ m Γ, W m Γ →
  c Γ (fun b Γ1 => if b = true then tb { D with nx := fun Γ' => ∃ m', m' < m ∧ W m' Γ', ct := fun Γ' => ∃ m', m' < m ∧ W m' Γ', bk := D.nx } Γ1 E else D.nx Γ1) E
def iSeq (K : PySem.W.Frag) (tl : TE) : TI := fun σ H R => tl σ H fun x H1 => ∃ a, x = .ref a ∧ (((∃ xs, SqL K H1 a xs) ∧ R (Itl K a) H1) ∨ ((∃ xs, SqT K H1 a xs) ∧ R (Itt K a) H1))
def LoopW (ds : List D) (g : TG2) (tb : TS2) (D0 : End2) (E : XW) (Γ : G2) : Prop := ∃ I : Nat → G2 → Prop, I 0 Γ ∧
  (∀ (i : Nat) x Γ, ds[i]? = some x → I i Γ → g x Γ (fun Γ' => tb { D0 with nx := I (i + 1), ct := I (i + 1), bk := D0.nx } Γ' E) E) ∧ ∀ Γ, I ds.length Γ → D0.nx Γ
def cFor (te : TE2) (g : TG2) (tb : TS2) : TS2 := fun D0 Γ E => te Γ (fun d Γ1 => match d with | .lst ds => LoopW ds g tb D0 E Γ1 | .tup ds => LoopW ds g tb D0 E Γ1 | _ => False) E
def RngW (lo : Int) (n : Nat) (g : TG2) (tb : TS2) (D0 : End2) (E : XW) (Γ : G2) : Prop := ∃ I : Nat → G2 → Prop, I 0 Γ ∧
  (∀ (i : Nat) Γ, i < n → I i Γ → g (.int (lo + i)) Γ (fun Γ' => tb { D0 with nx := I (i + 1), ct := I (i + 1), bk := D0.nx } Γ' E) E) ∧ ∀ Γ, I n Γ → D0.nx Γ
theorem rng_up {K : PySem.W.Frag} {F1 H1 : Hp} {Γ1 : G2} {σ : St} {lo : Int} {n : Nat} {tb : TS2} {D2 : End2} {D : Ends} {E : XW} (R1 : SR K F0 H0 F1 H1 σ Γ1) (h : RngW lo n g tb D2 E Γ1) (k : EndR K F0 H0 F1 D2 D) :
    ∃ W : Nat → Nat → St → Hp → Prop, (∃ m, W 0 m σ H1) ∧ ∀ i m σ H, W i m σ H → ((Itr lo n).stop i H ∧ D.nx σ H) ∨ ((Itr lo n).go i H ∧ ∃ N : St → Hp → Prop, (∀ σ' H', N σ' H' → ∃ m', m' < m ∧ W (i + 1) m' σ' H') ∧
      ∀ x H', (Itr lo n).yld i H x H' → upG K F0 H0 g E x σ H' fun σ2 H2 => upS K F0 H0 tb E { D with nx := N, ct := N, bk := D.nx } σ2 H2) := by
  obtain ⟨I, i0, turn, done⟩ := h
  refine for_range (lo := lo) (n := n) (fun i σ H => ∃ F2 Γ2, SR K F0 H0 F2 H σ Γ2 ∧ Same F1 F2 ∧ I i Γ2) ⟨F1, Γ1, R1, .refl _, i0⟩ ?_ ?_
  · rintro i σ H hi ⟨F2, Γ2, R2, s2, hI⟩
    exact ⟨F2, Γ2, _, .int (lo + i), R2, by unfold Rep; rfl, turn i Γ2 hi hI, fun Γ3 F3 H3 σ3 R3 s3 p => ⟨F3, Γ3, _, R3, p, ⟨fun Γ4 F4 H4 σ4 R4 s4 q => ⟨F4, Γ4, R4, s2.trans (s3.trans s4), q⟩, fun Γ4 F4 H4 σ4 R4 s4 q => k.nx _ _ _ _ R4 (s2.trans (s3.trans s4)) q,
      fun Γ4 F4 H4 σ4 R4 s4 q => ⟨F4, Γ4, R4, s2.trans (s3.trans s4), q⟩, k.rt, k.rf, k.rT, k.rm⟩⟩⟩
  · rintro σ H ⟨F2, Γ2, R2, s2, hI⟩
    exact k.nx _ _ _ _ R2 s2 (done _ hI)
def cRng1 (t : TF2) (g : TG2) (tb : TS2) : TS2 := fun D0 Γ E => t Γ (fun ds Γ1 => match ds with | [.int j] => (-(2 ^ 62) ≤ j ∧ j < 2 ^ 62) ∧ RngW 0 j.toNat g tb D0 E Γ1 | _ => False) E
theorem qs_rng1 {a : Expr} {t : TF2} {p pc : Pos} {body : List Stmt} {tb : TS2} (hc : X.calm = true) (hgl : Gl X "range") (hm : X.mg "range" = none) (ha : QA X F0 H0 [a] t) (hg : QG X F0 H0 tg g) (hb : QSs X F0 H0 body tb)
    (hst : starEach [a] X.env = [(false, eval a X.env)] := by rfl) (hs : ∀ x, foldedSetIterable (.Call (.Name "range" p) [a] [] pc) X.env x = pure x := by intro _; rfl) : QS X F0 H0 (.For tg (.Call (.Name "range" p) [a] [] pc) body [] pos) (cRng1 t g tb) := fun z E cx =>
  psC (ps_for (X := X.wsh z) cx.po hc (pi_range1 hgl hm (ha z E cx) hst) (hg z E cx) (hb z E cx) hs) fun D σ H hq13 => by obtain ⟨F, Γ, D2, R, h, k⟩ := hq13; exact ⟨F, Γ, _, R, h, fun ds Γ1 F1 H1 vs R1 s1 r1 h1 => by
    split at h1
    · rename_i j
      unfold Reps Reps Rep at r1
      obtain ⟨v, _, rfl, rfl, rfl⟩ := r1
      exact ⟨j, rfl, h1.1.1, h1.1.2, rng_up R1 h1.2 (k.mono s1)⟩
    · exact False.elim h1⟩
def cRng2 (t : TF2) (g : TG2) (tb : TS2) : TS2 := fun D0 Γ E => t Γ (fun ds Γ1 => match ds with | [.int i, .int j] => (-(2 ^ 62) ≤ i ∧ i < 2 ^ 62 ∧ -(2 ^ 62) ≤ j ∧ j < 2 ^ 62) ∧ RngW i (j - i).toNat g tb D0 E Γ1 | _ => False) E
def ItrS (lo st : Int) (n : Nat) : It := ⟨fun i _ => i < n, fun i H x H' => H' = H ∧ x = .int (lo + i * st), fun i _ => n ≤ i⟩
def iRng3 (ta : TA) : TI := fun σ H R => ta σ H fun vs H1 => ∃ (i j k : Int) (n : Nat), vs = [.int i, .int j, .int k] ∧ k ≠ 0 ∧ k.natAbs < 1073741824 ∧ Builtin.Range.small i j k = true ∧ Builtin.Range.rangeSize i j k = (n : Int) ∧ R (ItrS i k n) H1
def RngS (lo st : Int) (n : Nat) (g : TG2) (tb : TS2) (D0 : End2) (E : XW) (Γ : G2) : Prop := ∃ I : Nat → G2 → Prop, I 0 Γ ∧
  (∀ (i : Nat) Γ, i < n → I i Γ → g (.int (lo + i * st)) Γ (fun Γ' => tb { D0 with nx := I (i + 1), ct := I (i + 1), bk := D0.nx } Γ' E) E) ∧ ∀ Γ, I n Γ → D0.nx Γ
def cRng3 (t : TF2) (g : TG2) (tb : TS2) : TS2 := fun D0 Γ E => t Γ (fun ds Γ1 => match ds with
  | [.int i, .int j, .int k] => ∃ n : Nat, k ≠ 0 ∧ k.natAbs < 1073741824 ∧ Builtin.Range.small i j k = true ∧ Builtin.Range.rangeSize i j k = (n : Int) ∧ RngS i k n g tb D0 E Γ1
  | _ => False) E
end

abbrev Sp2 := List D → (D → Prop) → (Value → Prop) → Prop
def spUp (K : PySem.W.Frag) (sp : Sp2) : Sp := fun vs H Q E => ∃ F ds P Ex, Same F H ∧ Reps K F ds vs ∧ sp ds P Ex ∧ (∀ d v F' H', Gr F H F' H' → Rep K F' d v → P d → Q v H') ∧ ∀ C H', Ex C → Same H H' → E C none H'
def cCall (sp : Sp2) (t : TF2) : TE2 := fun Γ P E => t Γ (fun ds Γ1 => sp ds (fun d => P d Γ1) fun C => E Γ1 C) E
section
variable {X : Cx} {F0 H0 : Hp} {e : Expr} {es : List Expr} {pos p : Pos} {x : Str} {f : Addr} {fd : FuncData} {ps : List Str} {k : Nat} {sp : Sp2} {t : TF2}
theorem run2 {z : Wsh} {E : XW} {pins : List (Addr × Obj)} {s : Shared} {σ : St} {F H : Hp} {Γ : G2} {us : List Value} {vs : List V} {ds : List D} {P : D → Prop} {Q : VK} (Fn : FnOk X.prog X.w X.K X.mg X.base (CX1 X.prog X.w) k f fd ps (spUp X.K sp)) (hr : Room k X.A) (hb : Binds X.K fd ps []) (cx : Ctx (X.wsh z) F0 H0 E)
    (I : Inv (X.wsh z) pins σ H s) (R : SR X.K F0 H0 F H σ Γ) (r : Vals vs us) (rs : Reps X.K F ds vs) (h : sp ds P fun C => E Γ C) (hQ : ∀ d v F' H', Gr F H F' H' → Rep X.K F' d v → P d → Q v H') :
    wpAny (model X.prog X.w) X.A (call (.ref f) us) (EP (X.wsh z) pins σ Q) z.xe s := by
  have hs : spUp X.K sp vs H Q (fun C dx H' => E Γ C ∧ dx = none ∧ Same H H') := ⟨F, ds, P, _, R.g, rs, h, hQ, fun C H' hE hS => ⟨hE, rfl, hS⟩⟩
  have hl : (us ++ []).length = ps.length := by rw [List.append_nil, ← r.length]; exact Fn.len _ _ _ _ hs
  have hbs := hb s us I.kIn hl
  rw [List.append_nil] at hbs
  refine wpAny_call (codeAny_mono (Fn.run X.A X.stack s H ⟨us, []⟩ us vs Q _ hr I.env0 hbs r hs) fun r s' hq => ?_)
  cases r with
  | error e => exact cx.px pins σ Γ F H s e s' I R hq
  | ok fl =>
    cases fl with
    | ret u => exact I.after hq
    | next => exact False.elim hq
    | brk => exact False.elim hq
    | cont => exact False.elim hq
theorem qe_call (Fn : FnOk X.prog X.w X.K X.mg X.base (CX1 X.prog X.w) k f fd ps (spUp X.K sp)) (hr : Room k X.A) (hg : Gl X x) (hm : X.mg x = some (.ref f)) (hk : PySem.W.keepIn X.K (.ref f) = true) (hb : Binds X.K fd ps [])
    (ha : QA X F0 H0 (e :: es) t) (hdb : (x == ("__debug__" : Str)) = false := by decide) (he : starEach (e :: es) X.env = (false, eval e X.env) :: starEach es X.env := by rfl) (hpl : (backTo pos (starEach es X.env)).any (·.1) = false := by rfl) :
    QE X F0 H0 (.Call (.Name x p) (e :: es) [] pos) (cCall sp t) := by
  rintro z E cx pins s σ H Q I ⟨F, Γ, P, R, h, kk⟩
  refine wpAny_Call_Name_kw (ld_glob (X := X.wsh z) I hg hm ?_ hdb)
  refine PySem.W.callWith_K (h₀ := X.base) I.ok.mod.kin hk (thn (ha z E cx pos pins s σ H (fun vs H1 => ∃ F1 Γ1 ds, SR X.K F0 H0 F1 H1 σ Γ1 ∧ Same F F1 ∧ Reps X.K F1 ds vs ∧ sp ds (fun d => P d Γ1) fun C => E Γ1 C) I ⟨F, Γ, _, R, h, fun ds Γ1 F1 H1 vs R1 s1 r1 h1 => ⟨F1, Γ1, ds, R1, s1, r1, h1⟩⟩) fun us s1 hqq => ?_) he hpl
  obtain ⟨vs, H1, I1, r, F1, Γ1, ds, R1, sF, rs, q⟩ := hqq
  refine ⟨I1.kIn, ?_⟩
  exact run2 Fn hr hb cx I1 R1 r rs q fun d v F' H' gr rv hp => kk d Γ1 F' H' v (R1.grow gr) (sF.trans gr.f) rv hp
end

def start3 (n : Nat) (ds : List D) : G2 := ds.map .pu ++ List.replicate (n - ds.length) .no
abbrev start2 (N : List Str) (ds : List D) : G2 := start3 N.length ds
theorem sr_start {K : PySem.W.Frag} {F0 H : Hp} {N : List Str} {ds : List D} {vs : List V} (h : Same F0 H) (r : Reps K F0 ds vs) : SR K F0 H F0 H (L2.start N vs) (start2 N ds) := by
  have hl := reps_len r
  refine ⟨Gr.refl h, by simp [L2.start, start2, start3, hl], fun i s e => ?_, fun i j a e _ => ?_⟩
  · unfold start2 start3 at e
    unfold L2.start
    by_cases hi : i < ds.length
    · rw [List.getElem?_append_left (by simpa using hi), List.getElem?_map] at e
      cases q : ds[i]? with
      | none => rw [q] at e; cases e
      | some d =>
        rw [q] at e; cases e
        obtain ⟨v, e1, r1⟩ := reps_get r q
        refine ⟨some v, ?_, v, rfl, r1⟩
        rw [List.getElem?_append_left (by rw [List.length_map, ← hl]; exact hi), List.getElem?_map, e1]; rfl
    · rw [List.getElem?_append_right (by simpa using hi), List.getElem?_replicate] at e
      split at e
      · cases e
        rename_i hlt
        simp only [List.length_map] at hlt
        refine ⟨none, ?_, trivial⟩
        rw [List.getElem?_append_right (by rw [List.length_map, ← hl]; omega), List.getElem?_replicate, if_pos (by rw [List.length_map, ← hl]; exact hlt)]
      · cases e
  · exfalso
    obtain ⟨s, o, e, _, hs⟩ := e
    unfold start2 start3 at e
    by_cases hi : i < ds.length
    · rw [List.getElem?_append_left (by simpa using hi), List.getElem?_map] at e
      cases q : ds[i]? with
      | none => rw [q] at e; cases e
      | some d => rw [q] at e; cases e; exact hs
    · rw [List.getElem?_append_right (by simpa using hi), List.getElem?_replicate] at e
      split at e
      · cases e; exact hs
      · cases e
section
variable {P : Program} {w : World} {K : PySem.W.Frag} {mg : Str → Option Value} {base : Heap}
theorem fn2 {x qual : Str} {st : Stmt} {f : Addr} {fd : FuncData} {N ps : List Str} {k : Nat} {sp : Sp2} (Fn : Fun K x qual st f fd) (S : FnScope N ps (defScope st)) (len : ∀ ds Q E, sp ds Q E → ds.length = ps.length)
    (hbody : ∀ (cdv : Value) (A : Around) (outer : List Env) (s : Shared) (H : Hp) (E : XK), Room k (A.deeper (envOfC qual (defScope st) s.heap.objs.size f cdv)) → ∀ F0 : Hp,
      ∃ t, QSs (cxOf (CX1 P w) P w K mg base N qual (defScope st) f cdv A outer s H E) F0 H (defBody st) t ∧ ∀ ds Q Ex, sp ds Q Ex → t { nx := fun _ => Q .non, rt := Q } (start2 N ds) fun _ => Ex) :
    FnOk P w K mg base (CX1 P w) (k + 1) f fd ps (spUp K sp) := by
  obtain ⟨oc, od, kV, doc, pm, an, cdv, ct, osl, rfl, lk, hcd⟩ := Fn.ex
  refine fn_of lk hcd S (fun vs H Q E ⟨F, ds, P', Ex, _, rs, hs, _⟩ => by rw [← reps_len rs]; exact len _ _ _ hs) fun A outer s H vs Q E hr ⟨F0, ds, Pd, Ex, sF, rs, hsp, hQ, hE⟩ => ?_
  obtain ⟨t, ht, hq⟩ := hbody cdv A outer s H E hr F0
  have cx : Ctx ((cxOf (CX1 P w) P w K mg base N qual (defScope st) f cdv A outer s H E).wsh ⟨(cxOf (CX1 P w) P w K mg base N qual (defScope st) f cdv A outer s H E).xe, []⟩) F0 H (fun _ => Ex) := by
    refine ⟨fun pins σ Γ F H1 s1 e s' I R hx => ?_, PassesOwn.leaving⟩
    refine thn (pass_leave (E := fun C dx H' => E C dx H') I rfl rfl rfl (hx.imp fun C dx H' z => ?_)) fun _ s'' z => z
    obtain ⟨Γ', F', R', _, z1, rfl⟩ := z
    exact hE C H' z1 R'.gr.h
  exact ⟨_, ht _ _ cx, F0, start2 N ds, { nx := fun _ => Pd .non, rt := Pd }, sr_start sF rs, hq ds Pd Ex hsp, ⟨fun Γ F' H' σ R' _ q => hQ _ _ _ _ R'.gr (by unfold Rep; rfl) q, fun _ _ _ _ _ _ q => q, fun _ _ _ _ _ _ q => q, fun d v F' H' gr rv q => hQ d v F' H' gr rv q, fun _ _ _ _ _ _ q => q.elim, fun _ _ _ _ _ _ _ _ _ q => q.elim, fun _ _ _ _ _ _ _ _ q => q.elim⟩⟩
end
end L3

namespace L3
open PySem PySem.Spec PyProof.Rows L2

def bln (i : Int) : Nat := Builtin.Int.intBits i
theorem bln_mul {i j : Int} (h : bln i + bln j ≤ 100000000) : IntMulOk i j := by
  unfold bln at h
  unfold IntMulOk
  intro z
  simp only [Bool.and_eq_true, decide_eq_true_eq] at z
  have z2 := z.2
  unfold Builtin.Int.intTooBig at z2
  have hb : bitsLine = 134217728 := by rfl
  rw [hb] at z2
  have := of_decide_eq_true z2
  omega
theorem bln_le {i : Int} {k : Nat} (h : i.natAbs < 2 ^ k) : bln i ≤ k := by
  unfold bln Builtin.Int.intBits
  split
  · exact Nat.zero_le _
  · rename_i q
    have n0 : i.natAbs ≠ 0 := fun z => by
      have : i = 0 := Int.natAbs_eq_zero.mp z
      subst this
      exact q rfl
    have := (Nat.log2_lt n0).mpr h
    omega
theorem bln_lt {i : Int} {k : Nat} (h : bln i ≤ k) : i.natAbs < 2 ^ k := by
  unfold bln Builtin.Int.intBits at h
  split at h
  · rename_i q
    have : i = 0 := by simpa using q
    subst this
    exact Nat.two_pow_pos k
  · rename_i q
    have n0 : i.natAbs ≠ 0 := fun z => by
      have : i = 0 := Int.natAbs_eq_zero.mp z
      subst this
      exact q rfl
    exact (Nat.log2_lt n0).mp (by omega)
section
variable {X : Cx}
theorem op2_int {f : Value → Value → Sem Value} {C : Int → Int → Prop} {v : Int → Int → V} {d : Int → Int → D} {g : D → D → (D → Prop) → Prop} (ho : OpR X f (rI C v)) (hg : ∀ x y P, g x y P → ∃ i j, x = .int i ∧ y = .int j ∧ C i j ∧ P (d i j)) (hd : ∀ i j F, Rep X.K F (d i j) (v i j)) : OpR X f (rUp X.K g) := by
  rintro pins s σ H x y u w Q I rx ry ⟨F, d1, d2, P, sF, r1, r2, h, k⟩
  obtain ⟨i, j, rfl, rfl, hc, hp⟩ := hg _ _ _ h
  unfold Rep at r1 r2
  subst r1 r2
  exact ho pins s σ H _ _ u w Q I rx ry ⟨i, j, rfl, rfl, hc, k _ _ F H (Gr.refl sF) (hd i j F) hp⟩
theorem op2_int0 {f : Value → Value → Sem Value} {v : Int → Int → V} {d : Int → Int → D} {g : D → D → (D → Prop) → Prop} (ho : OpR X f (rI0 v)) (hg : ∀ x y P, g x y P → ∃ i j, x = .int i ∧ y = .int j ∧ P (d i j)) (hd : ∀ i j F, Rep X.K F (d i j) (v i j)) : OpR X f (rUp X.K g) := by
  rintro pins s σ H x y u w Q I rx ry ⟨F, d1, d2, P, sF, r1, r2, h, k⟩
  obtain ⟨i, j, rfl, rfl, hp⟩ := hg _ _ _ h
  unfold Rep at r1 r2
  subst r1 r2
  exact ho pins s σ H _ _ u w Q I rx ry ⟨i, j, rfl, rfl, k _ _ F H (Gr.refl sF) (hd i j F) hp⟩
def wI (C : Int → Int → Prop) (d : Int → Int → D) : D → D → (D → Prop) → Prop := fun x y P => match x, y with
  | .int i, .int j => C i j ∧ P (d i j)
  | _, _ => False
theorem wI_of {C : Int → Int → Prop} {d : Int → Int → D} {x y : D} {P : D → Prop} (h : wI C d x y P) : ∃ i j, x = .int i ∧ y = .int j ∧ C i j ∧ P (d i j) := by
  unfold wI at h
  split at h
  · exact ⟨_, _, rfl, rfl, h⟩
  · exact h.elim
def wI0 (d : Int → Int → D) : D → D → (D → Prop) → Prop := fun x y P => match x, y with
  | .int i, .int j => P (d i j)
  | _, _ => False
theorem wI0_of {d : Int → Int → D} {x y : D} {P : D → Prop} (h : wI0 d x y P) : ∃ i j, x = .int i ∧ y = .int j ∧ P (d i j) := by
  unfold wI0 at h
  split at h
  · exact ⟨_, _, rfl, rfl, h⟩
  · exact h.elim
def gAdd : D → D → (D → Prop) → Prop := fun x y P => match x, y with
  | .int i, .int j => P (.int (i + j))
  | .str i, .str j => i.length + j.length ≤ sizeLine ∧ P (.str (i ++ j))
  | _, _ => False
theorem o_add : OpR X (binaryOp .Add) (rUp X.K gAdd) := by
  rintro pins s σ H x y u w Q I rx ry ⟨F, d1, d2, P, sF, r1, r2, h, k⟩
  unfold gAdd at h
  split at h
  · unfold Rep at r1 r2
    subst r1 r2
    exact op_add pins s σ H _ _ u w Q I rx ry ⟨_, _, rfl, rfl, k _ _ F H (Gr.refl sF) (by unfold Rep; rfl) h⟩
  · unfold Rep at r1 r2
    subst r1 r2
    exact op_add_str pins s σ H _ _ u w Q I rx ry ⟨_, _, rfl, rfl, h.1, k _ _ F H (Gr.refl sF) (by unfold Rep; rfl) h.2⟩
  · exact h.elim
def gSub : D → D → (D → Prop) → Prop := wI0 fun i j => .int (i - j)
theorem o_sub : OpR X (binaryOp .Sub) (rUp X.K gSub) := op2_int0 op_sub (fun _ _ _ h => wI0_of h) fun _ _ _ => by unfold Rep; rfl
def MulC (i j : Int) : Prop := bln i ≤ 64 ∨ bln j ≤ 64 ∨ bln i + bln j ≤ 100000000
theorem MulC.ok {i j : Int} (h : MulC i j) : IntMulOk i j := by
  rcases h with h | h | h
  · exact .of_left h
  · exact .of_right h
  · exact bln_mul h
def gMul : D → D → (D → Prop) → Prop := wI MulC fun i j => .int (i * j)
theorem o_mul : OpR X (binaryOp .Mult) (rUp X.K gMul) := op2_int (C := MulC) (v := fun i j => .int (i * j)) (opI fun i j _ _ _ _ _ hc q => mul_int q hc.ok) (fun _ _ _ h => wI_of h) fun _ _ _ => by unfold Rep; rfl
def gDiv : D → D → (D → Prop) → Prop := wI (fun _ j => j ≠ 0 ∧ bln j ≤ 9000) fun i j => .int (i.fdiv j)
theorem o_div : OpR X (binaryOp .FloorDiv) (rUp X.K gDiv) := op2_int (C := fun _ j => j ≠ 0 ∧ bln j ≤ 9000) (v := fun i j => .int (i.fdiv j)) (opI fun i j _ _ _ _ _ hc q => floordiv_int hc.1 q (.inl (PyProof.noPylong_of_log2 (by
  have := bln_lt hc.2
  exact (Nat.log2_lt (fun z => hc.1 (Int.natAbs_eq_zero.mp z))).mpr this)))) (fun _ _ _ h => wI_of h) fun _ _ _ => by unfold Rep; rfl
def gMod : D → D → (D → Prop) → Prop := wI (fun _ j => j ≠ 0) fun i j => .int (i.fmod j)
theorem o_mod : OpR X (binaryOp .Mod) (rUp X.K gMod) := op2_int (C := fun _ j => j ≠ 0) op_modN (fun _ _ _ h => wI_of h) fun _ _ _ => by unfold Rep; rfl
def gPow : D → D → (D → Prop) → Prop := wI CPow fun i j => .int (i ^ j.toNat)
theorem o_pow : OpR X (binaryOp .Pow) (rUp X.K gPow) := op2_int op_pow (fun _ _ _ h => wI_of h) fun _ _ _ => by unfold Rep; rfl
def gLt : D → D → (D → Prop) → Prop := wI0 fun i j => .bl (decide (i < j))
theorem o_lt : OpR X (compareOp .Lt) (rUp X.K gLt) := op2_int0 op_lt (fun _ _ _ h => wI0_of h) fun _ _ _ => by unfold Rep; rfl
def gLe : D → D → (D → Prop) → Prop := wI0 fun i j => .bl (decide (i ≤ j))
theorem o_le : OpR X (compareOp .LtE) (rUp X.K gLe) := op2_int0 op_le (fun _ _ _ h => wI0_of h) fun _ _ _ => by unfold Rep; rfl
def gGt : D → D → (D → Prop) → Prop := wI0 fun i j => .bl (decide (j < i))
theorem o_gt : OpR X (compareOp .Gt) (rUp X.K gGt) := op2_int0 op_gt (fun _ _ _ h => wI0_of h) fun _ _ _ => by unfold Rep; rfl
def gGe : D → D → (D → Prop) → Prop := wI0 fun i j => .bl (decide (j ≤ i))
def isNon : D → Bool | .non => true | _ => false
def gIs : D → D → (D → Prop) → Prop := fun x y P => match y with | .non => P (.bl (isNon x)) | .bl d => (match x with | .bl c => P (.bl (c == d)) | _ => False) | _ => False
def gIsN : D → D → (D → Prop) → Prop := fun x y P => match y with | .non => P (.bl (!isNon x)) | .bl d => (match x with | .bl c => P (.bl (c != d)) | _ => False) | _ => False
mutual
def deq : D → D → Bool
  | .non, .non => true
  | .bl a, .bl b => a == b
  | .int a, .int b => a == b
  | .str a, .str b => a == b
  | .tup xs, .tup ys => deqs xs ys
  | .lst xs, .lst ys => deqs xs ys
  | .exc a, .exc b => a == b
  | .ptr a, .ptr b => a == b
  | .obj C fs xs, .obj C' fs' ys => decide (C = C') && decide (fs = fs') && deqs xs ys
  | .dic ks xs, .dic ks' ys => decide (ks = ks') && deqs xs ys
  | .dit ks xs, .dit ks' ys => decide (ks = ks') && deqs xs ys
  | _, _ => false
def deqs : List D → List D → Bool
  | [], [] => true
  | x :: xs, y :: ys => deq x y && deqs xs ys
  | _, _ => false
end
def Cmp : Nat → D → D → Prop
  | _, .bl _, .int _ => False
  | _, .int _, .bl _ => False
  | _, .exc _, _ => False
  | _, _, .exc _ => False
  | _, .ptr _, _ => False
  | _, _, .ptr _ => False
  | _, .obj _ _ _, _ => False
  | _, _, .obj _ _ _ => False
  | _, .dic _ _, _ => False
  | _, _, .dic _ _ => False
  | _, .dit _ _, _ => False
  | _, _, .dit _ _ => False
  | 0, .tup _, .tup _ => False
  | 0, .lst _, .lst _ => False
  | n + 1, .tup xs, .tup ys => ∀ (i : Nat) x y, xs[i]? = some x → ys[i]? = some y → Cmp n x y
  | n + 1, .lst xs, .lst ys => ∀ (i : Nat) x y, xs[i]? = some x → ys[i]? = some y → Cmp n x y
  | _, _, _ => True
end

mutual
theorem deq_refl : ∀ d : D, deq d d = true
  | .non => by simp [deq]
  | .bl _ => by simp [deq]
  | .int _ => by simp [deq]
  | .str _ => by simp [deq]
  | .tup xs => by unfold deq; exact deqs_refl xs
  | .lst xs => by unfold deq; exact deqs_refl xs
  | .exc _ => by simp [deq]
  | .ptr _ => by simp [deq]
  | .obj _ _ xs => by unfold deq; rw [deqs_refl xs]; simp
  | .dic _ xs => by unfold deq; rw [deqs_refl xs]; simp
  | .dit _ xs => by unfold deq; rw [deqs_refl xs]; simp
theorem deqs_refl : ∀ ds : List D, deqs ds ds = true
  | [] => by simp [deqs]
  | d :: ds => by unfold deqs; rw [deq_refl d, deqs_refl ds]; rfl
end
open Classical in
theorem deqs_all : ∀ {xs ys : List D}, xs.length = ys.length → (∀ e : Nat → Bool, (∀ (i : Nat) x y, xs[i]? = some x → ys[i]? = some y → e i = deq x y) → (List.range xs.length).all e = deqs xs ys)
  | [], [], _, _, _ => by simp [deqs]
  | x :: xs, y :: ys, hl, e, he => by
    have ih := deqs_all (xs := xs) (ys := ys) (by simpa using hl) (fun i => e (i + 1)) fun i a b h1 h2 => he (i + 1) a b (by simpa using h1) (by simpa using h2)
    rw [List.length_cons, List.range_succ_eq_map, List.all_cons, List.all_map]
    unfold deqs
    rw [he 0 x y rfl rfl]
    congr 1
theorem deqs_len : ∀ {xs ys : List D}, xs.length ≠ ys.length → deqs xs ys = false
  | [], [], h => absurd rfl h
  | [], _ :: _, _ => by simp [deqs]
  | _ :: _, [], _ => by simp [deqs]
  | x :: xs, y :: ys, h => by
    unfold deqs
    rw [deqs_len (fun z => h (by simp [z])), Bool.and_false]
end L3

namespace L3
open PySem PySem.Spec PyProof.Rows L2

theorem deqs_of : ∀ {xs ys : List D}, xs.length = ys.length → (∀ (i : Nat) x y, xs[i]? = some x → ys[i]? = some y → deq x y = true) → deqs xs ys = true
  | [], [], _, _ => by simp [deqs]
  | x :: xs, y :: ys, hl, h => by
    unfold deqs
    rw [h 0 x y rfl rfl, deqs_of (by simpa using hl) fun i a b h1 h2 => h (i + 1) a b (by simpa using h1) (by simpa using h2)]
    rfl
section
variable {X : Cx} {pins : List (Addr × Obj)} {σ : St} {F H : Hp} {s : Shared}
theorem seq_kinds (I : Inv X pins σ H s) {a : Addr} {xs ys : List V} (h : SqL X.K H a xs) (h' : SqT X.K H a ys) : False := by
  obtain ⟨its, _, ⟨o, n, e, c, _, _⟩, _⟩ := I.list h
  obtain ⟨its', _, ⟨o', e', c', _⟩, _⟩ := I.tuple h'
  rw [e] at e'; cases e'
  rw [c] at c'
  injection c' with c'
  exact absurd c' (by decide)
theorem same_D (I : Inv X pins σ H s) (sF : Same F H) : ∀ (n : Nat) (d d' : D) (v : V), Cmp n d d' → Rep X.K F d v → Rep X.K F d' v → deq d d' = true := by
  intro n
  induction n with
  | zero =>
    intro d d' v hc r r'
    cases d <;> cases d' <;> simp only [Cmp] at hc <;> simp only [Rep] at r r' <;>
      first
      | (subst r; cases r'; exact deq_refl _)
      | (subst r; rcases r' with ⟨_, _, z, _⟩ <;> cases z)
      | (subst r'; rcases r with ⟨_, _, z, _⟩ <;> cases z)
      | (obtain ⟨a, vs, rfl, h1, _⟩ := r; obtain ⟨b, us, z, h2, _⟩ := r'; cases z
         first | exact (seq_kinds I (sF.seq h1) (sqT_mono sF h2)).elim | exact (seq_kinds I (sF.seq h2) (sqT_mono sF h1)).elim)
  | succ n ih =>
    intro d d' v hc r r'
    have go : ∀ {xs ys : List D} {vs us : List V}, vs = us → Reps X.K F xs vs → Reps X.K F ys us → (∀ (i : Nat) x y, xs[i]? = some x → ys[i]? = some y → Cmp n x y) → deqs xs ys = true := by
      intro xs ys vs us e r1 r2 hc
      subst e
      refine deqs_of (by rw [reps_len r1, reps_len r2]) fun i x y h1 h2 => ?_
      obtain ⟨v1, e1, q1⟩ := reps_get r1 h1
      obtain ⟨v2, e2, q2⟩ := reps_get r2 h2
      rw [e1] at e2; cases e2
      exact ih x y v1 (hc i x y h1 h2) q1 q2
    cases d <;> cases d' <;> simp only [Cmp] at hc <;> simp only [Rep] at r r' <;>
      first
      | (subst r; cases r'; exact deq_refl _)
      | (subst r; rcases r' with ⟨_, _, z, _⟩ <;> cases z)
      | (subst r'; rcases r with ⟨_, _, z, _⟩ <;> cases z)
      | (obtain ⟨a, vs, rfl, h1, q1⟩ := r; obtain ⟨b, us, z, h2, q2⟩ := r'; cases z
         first
         | (unfold deq; exact go (I.tuple_inj (sqT_mono sF h1) (sqT_mono sF h2)) q1 q2 hc)
         | (unfold deq; exact go (I.list_inj (sF.seq h1) (sF.seq h2)) q1 q2 hc)
         | exact (seq_kinds I (sF.seq h1) (sqT_mono sF h2)).elim
         | exact (seq_kinds I (sF.seq h2) (sqT_mono sF h1)).elim)
structure EqD (A : Around) (s : Shared) (v u : Value) (b : Bool) : Prop where
  eq : SeqAt.EqAt A s v u b
  rc : SeqAt.RcAt A s v u b
  ne : SeqAt.RcNeAt A s v u (!b)
theorem range_min {n m : Nat} (e : Nat → Bool) (h : n = m) : ((List.range (min n m)).all e && n == m) = (List.range n).all e := by
  subst h; simp
theorem eq_D (I : Inv X pins σ H s) (sF : Same F H) : ∀ (n : Nat) (A : Around) (d d' : D) (x y : V) (v u : Value), A.units + n + 1 < cLine → Cmp n d d' → Rep X.K F d x → Rep X.K F d' y → RelV x v → RelV y u → EqD A s v u (deq d d') := by
  intro n
  induction n with
  | zero =>
    intro A d d' x y v u hu hc r r' rv ru
    have hu0 : A.units < cLine := by omega
    cases d with
    | non =>
      simp only [Rep] at r
      subst r
      cases rv
      cases d' with
      | non =>
        simp only [Rep] at r'
        subst r'
        cases ru
        exact ⟨SeqAt.EqAt.same _, SeqAt.RcAt.none_none , SeqAt.RcNeAt.none_none ⟩
      | bl x2 =>
        simp only [Rep] at r'
        subst r'
        cases ru
        exact ⟨SeqAt.EqAt.none_bool _, SeqAt.RcAt.none_bool _, SeqAt.RcNeAt.none_bool _⟩
      | int x2 =>
        simp only [Rep] at r'
        subst r'
        obtain ⟨t2, rfl⟩ := ru
        exact ⟨SeqAt.EqAt.none_int _ _, SeqAt.RcAt.none_int _ _, SeqAt.RcNeAt.none_int _ _⟩
      | str x2 =>
        simp only [Rep] at r'
        subst r'
        obtain ⟨t2, rfl⟩ := ru
        exact ⟨SeqAt.EqAt.none_str _ _, SeqAt.RcAt.none_str _ _, SeqAt.RcNeAt.none_str _ _⟩
      | tup ys =>
        simp only [Rep] at r'
        obtain ⟨l2, us, rfl, h2, q2⟩ := r'
        cases ru
        obtain ⟨is2, p2, k2, _⟩ := I.tuple (sqT_mono sF h2)
        exact ⟨SeqAt.EqAt.none_tuple  k2 hu0, SeqAt.RcAt.none_tuple  k2 hu0, SeqAt.RcNeAt.none_tuple  k2 hu0⟩
      | lst ys =>
        simp only [Rep] at r'
        obtain ⟨l2, us, rfl, h2, q2⟩ := r'
        cases ru
        obtain ⟨is2, p2, k2', _⟩ := I.list (sF.seq h2)
        have k2 := k2'.isList
        exact ⟨SeqAt.EqAt.none_list  k2 hu0, SeqAt.RcAt.none_list  k2 hu0, SeqAt.RcNeAt.none_list  k2 hu0⟩
      | exc C =>
        exact False.elim (by simpa only [Cmp] using hc)
      | ptr _ =>
        exact False.elim (by simpa only [Cmp] using hc)
      | obj _ _ _ =>
        exact False.elim (by simpa only [Cmp] using hc)
      | dic _ _ =>
        exact False.elim (by simpa only [Cmp] using hc)
      | dit _ _ =>
        exact False.elim (by simpa only [Cmp] using hc)
    | bl x1 =>
      simp only [Rep] at r
      subst r
      cases rv
      cases d' with
      | non =>
        simp only [Rep] at r'
        subst r'
        cases ru
        exact ⟨SeqAt.EqAt.bool_none _, SeqAt.RcAt.bool_none _, SeqAt.RcNeAt.bool_none _⟩
      | bl x2 =>
        simp only [Rep] at r'
        subst r'
        cases ru
        exact ⟨SeqAt.EqAt.bool_bool _ _, SeqAt.RcAt.bool_bool _ _, SeqAt.RcNeAt.bool_bool _ _⟩
      | int x2 =>
        exact False.elim (by simpa only [Cmp] using hc)
      | str x2 =>
        simp only [Rep] at r'
        subst r'
        obtain ⟨t2, rfl⟩ := ru
        exact ⟨SeqAt.EqAt.bool_str _ _ _, SeqAt.RcAt.bool_str _ _ _, SeqAt.RcNeAt.bool_str _ _ _⟩
      | tup ys =>
        simp only [Rep] at r'
        obtain ⟨l2, us, rfl, h2, q2⟩ := r'
        cases ru
        obtain ⟨is2, p2, k2, _⟩ := I.tuple (sqT_mono sF h2)
        exact ⟨SeqAt.EqAt.bool_tuple _ k2 hu0, SeqAt.RcAt.bool_tuple _ k2 hu0, SeqAt.RcNeAt.bool_tuple _ k2 hu0⟩
      | lst ys =>
        simp only [Rep] at r'
        obtain ⟨l2, us, rfl, h2, q2⟩ := r'
        cases ru
        obtain ⟨is2, p2, k2', _⟩ := I.list (sF.seq h2)
        have k2 := k2'.isList
        exact ⟨SeqAt.EqAt.bool_list _ k2 hu0, SeqAt.RcAt.bool_list _ k2 hu0, SeqAt.RcNeAt.bool_list _ k2 hu0⟩
      | exc C =>
        exact False.elim (by simpa only [Cmp] using hc)
      | ptr _ =>
        exact False.elim (by simpa only [Cmp] using hc)
      | obj _ _ _ =>
        exact False.elim (by simpa only [Cmp] using hc)
      | dic _ _ =>
        exact False.elim (by simpa only [Cmp] using hc)
      | dit _ _ =>
        exact False.elim (by simpa only [Cmp] using hc)
    | int x1 =>
      simp only [Rep] at r
      subst r
      obtain ⟨t1, rfl⟩ := rv
      cases d' with
      | non =>
        simp only [Rep] at r'
        subst r'
        cases ru
        exact ⟨SeqAt.EqAt.int_none _ _, SeqAt.RcAt.int_none _ _, SeqAt.RcNeAt.int_none _ _⟩
      | bl x2 =>
        exact False.elim (by simpa only [Cmp] using hc)
      | int x2 =>
        simp only [Rep] at r'
        subst r'
        obtain ⟨t2, rfl⟩ := ru
        exact ⟨SeqAt.EqAt.int_int _ _ _ _, SeqAt.RcAt.int_int _ _ _ _, SeqAt.RcNeAt.int_int _ _ _ _⟩
      | str x2 =>
        simp only [Rep] at r'
        subst r'
        obtain ⟨t2, rfl⟩ := ru
        exact ⟨SeqAt.EqAt.int_str _ _ _ _, SeqAt.RcAt.int_str _ _ _ _, SeqAt.RcNeAt.int_str _ _ _ _⟩
      | tup ys =>
        simp only [Rep] at r'
        obtain ⟨l2, us, rfl, h2, q2⟩ := r'
        cases ru
        obtain ⟨is2, p2, k2, _⟩ := I.tuple (sqT_mono sF h2)
        exact ⟨SeqAt.EqAt.int_tuple _ _ k2 hu0, SeqAt.RcAt.int_tuple _ _ k2 hu0, SeqAt.RcNeAt.int_tuple _ _ k2 hu0⟩
      | lst ys =>
        simp only [Rep] at r'
        obtain ⟨l2, us, rfl, h2, q2⟩ := r'
        cases ru
        obtain ⟨is2, p2, k2', _⟩ := I.list (sF.seq h2)
        have k2 := k2'.isList
        exact ⟨SeqAt.EqAt.int_list _ _ k2 hu0, SeqAt.RcAt.int_list _ _ k2 hu0, SeqAt.RcNeAt.int_list _ _ k2 hu0⟩
      | exc C =>
        exact False.elim (by simpa only [Cmp] using hc)
      | ptr _ =>
        exact False.elim (by simpa only [Cmp] using hc)
      | obj _ _ _ =>
        exact False.elim (by simpa only [Cmp] using hc)
      | dic _ _ =>
        exact False.elim (by simpa only [Cmp] using hc)
      | dit _ _ =>
        exact False.elim (by simpa only [Cmp] using hc)
    | str x1 =>
      simp only [Rep] at r
      subst r
      obtain ⟨t1, rfl⟩ := rv
      cases d' with
      | non =>
        simp only [Rep] at r'
        subst r'
        cases ru
        exact ⟨SeqAt.EqAt.str_none _ _, SeqAt.RcAt.str_none _ _, SeqAt.RcNeAt.str_none _ _⟩
      | bl x2 =>
        simp only [Rep] at r'
        subst r'
        cases ru
        exact ⟨SeqAt.EqAt.str_bool _ _ _, SeqAt.RcAt.str_bool _ _ _, SeqAt.RcNeAt.str_bool _ _ _⟩
      | int x2 =>
        simp only [Rep] at r'
        subst r'
        obtain ⟨t2, rfl⟩ := ru
        exact ⟨SeqAt.EqAt.str_int _ _ _ _, SeqAt.RcAt.str_int _ _ _ _, SeqAt.RcNeAt.str_int _ _ _ _⟩
      | str x2 =>
        simp only [Rep] at r'
        subst r'
        obtain ⟨t2, rfl⟩ := ru
        exact ⟨SeqAt.EqAt.str_str _ _ _ _, SeqAt.RcAt.str_str _ _ _ _, SeqAt.RcNeAt.str_str _ _ _ _⟩
      | tup ys =>
        simp only [Rep] at r'
        obtain ⟨l2, us, rfl, h2, q2⟩ := r'
        cases ru
        obtain ⟨is2, p2, k2, _⟩ := I.tuple (sqT_mono sF h2)
        exact ⟨SeqAt.EqAt.str_tuple _ _ k2 hu0, SeqAt.RcAt.str_tuple _ _ k2 hu0, SeqAt.RcNeAt.str_tuple _ _ k2 hu0⟩
      | lst ys =>
        simp only [Rep] at r'
        obtain ⟨l2, us, rfl, h2, q2⟩ := r'
        cases ru
        obtain ⟨is2, p2, k2', _⟩ := I.list (sF.seq h2)
        have k2 := k2'.isList
        exact ⟨SeqAt.EqAt.str_list _ _ k2 hu0, SeqAt.RcAt.str_list _ _ k2 hu0, SeqAt.RcNeAt.str_list _ _ k2 hu0⟩
      | exc C =>
        exact False.elim (by simpa only [Cmp] using hc)
      | ptr _ =>
        exact False.elim (by simpa only [Cmp] using hc)
      | obj _ _ _ =>
        exact False.elim (by simpa only [Cmp] using hc)
      | dic _ _ =>
        exact False.elim (by simpa only [Cmp] using hc)
      | dit _ _ =>
        exact False.elim (by simpa only [Cmp] using hc)
    | tup xs =>
      simp only [Rep] at r
      obtain ⟨l1, vs, rfl, h1, q1⟩ := r
      cases rv
      obtain ⟨is1, p1, k1, _⟩ := I.tuple (sqT_mono sF h1)
      cases d' with
      | non =>
        simp only [Rep] at r'
        subst r'
        cases ru
        exact ⟨SeqAt.EqAt.tuple_none  k1 hu0, SeqAt.RcAt.tuple_none  k1 hu0, SeqAt.RcNeAt.tuple_none  k1 hu0⟩
      | bl x2 =>
        simp only [Rep] at r'
        subst r'
        cases ru
        exact ⟨SeqAt.EqAt.tuple_bool _ k1 hu0, SeqAt.RcAt.tuple_bool _ k1 hu0, SeqAt.RcNeAt.tuple_bool _ k1 hu0⟩
      | int x2 =>
        simp only [Rep] at r'
        subst r'
        obtain ⟨t2, rfl⟩ := ru
        exact ⟨SeqAt.EqAt.tuple_int _ _ k1 hu0, SeqAt.RcAt.tuple_int _ _ k1 hu0, SeqAt.RcNeAt.tuple_int _ _ k1 hu0⟩
      | str x2 =>
        simp only [Rep] at r'
        subst r'
        obtain ⟨t2, rfl⟩ := ru
        exact ⟨SeqAt.EqAt.tuple_str _ _ k1 hu0, SeqAt.RcAt.tuple_str _ _ k1 hu0, SeqAt.RcNeAt.tuple_str _ _ k1 hu0⟩
      | tup ys =>
        simp only [Rep] at r'
        obtain ⟨l2, us, rfl, h2, q2⟩ := r'
        cases ru
        obtain ⟨is2, p2, k2, _⟩ := I.tuple (sqT_mono sF h2)
        exact False.elim (by simpa only [Cmp] using hc)
      | lst ys =>
        simp only [Rep] at r'
        obtain ⟨l2, us, rfl, h2, q2⟩ := r'
        cases ru
        obtain ⟨is2, p2, k2', _⟩ := I.list (sF.seq h2)
        have k2 := k2'.isList
        exact ⟨SeqAt.EqAt.tuple_list k1 k2 hu0, SeqAt.RcAt.tuple_list k1 k2 hu0, SeqAt.RcNeAt.tuple_list k1 k2 hu0⟩
      | exc C =>
        exact False.elim (by simpa only [Cmp] using hc)
      | ptr _ =>
        exact False.elim (by simpa only [Cmp] using hc)
      | obj _ _ _ =>
        exact False.elim (by simpa only [Cmp] using hc)
      | dic _ _ =>
        exact False.elim (by simpa only [Cmp] using hc)
      | dit _ _ =>
        exact False.elim (by simpa only [Cmp] using hc)
    | lst xs =>
      simp only [Rep] at r
      obtain ⟨l1, vs, rfl, h1, q1⟩ := r
      cases rv
      obtain ⟨is1, p1, k1', _⟩ := I.list (sF.seq h1)
      have k1 := k1'.isList
      cases d' with
      | non =>
        simp only [Rep] at r'
        subst r'
        cases ru
        exact ⟨SeqAt.EqAt.list_none  k1 hu0, SeqAt.RcAt.list_none  k1 hu0, SeqAt.RcNeAt.list_none  k1 hu0⟩
      | bl x2 =>
        simp only [Rep] at r'
        subst r'
        cases ru
        exact ⟨SeqAt.EqAt.list_bool _ k1 hu0, SeqAt.RcAt.list_bool _ k1 hu0, SeqAt.RcNeAt.list_bool _ k1 hu0⟩
      | int x2 =>
        simp only [Rep] at r'
        subst r'
        obtain ⟨t2, rfl⟩ := ru
        exact ⟨SeqAt.EqAt.list_int _ _ k1 hu0, SeqAt.RcAt.list_int _ _ k1 hu0, SeqAt.RcNeAt.list_int _ _ k1 hu0⟩
      | str x2 =>
        simp only [Rep] at r'
        subst r'
        obtain ⟨t2, rfl⟩ := ru
        exact ⟨SeqAt.EqAt.list_str _ _ k1 hu0, SeqAt.RcAt.list_str _ _ k1 hu0, SeqAt.RcNeAt.list_str _ _ k1 hu0⟩
      | tup ys =>
        simp only [Rep] at r'
        obtain ⟨l2, us, rfl, h2, q2⟩ := r'
        cases ru
        obtain ⟨is2, p2, k2, _⟩ := I.tuple (sqT_mono sF h2)
        exact ⟨SeqAt.EqAt.list_tuple k1 k2 hu0, SeqAt.RcAt.list_tuple k1 k2 hu0, SeqAt.RcNeAt.list_tuple k1 k2 hu0⟩
      | lst ys =>
        simp only [Rep] at r'
        obtain ⟨l2, us, rfl, h2, q2⟩ := r'
        cases ru
        obtain ⟨is2, p2, k2', _⟩ := I.list (sF.seq h2)
        have k2 := k2'.isList
        exact False.elim (by simpa only [Cmp] using hc)
      | exc C =>
        exact False.elim (by simpa only [Cmp] using hc)
      | ptr _ =>
        exact False.elim (by simpa only [Cmp] using hc)
      | obj _ _ _ =>
        exact False.elim (by simpa only [Cmp] using hc)
      | dic _ _ =>
        exact False.elim (by simpa only [Cmp] using hc)
      | dit _ _ =>
        exact False.elim (by simpa only [Cmp] using hc)
    | exc C => cases d' <;> exact False.elim (by simpa only [Cmp] using hc)
    | ptr _ => cases d' <;> exact False.elim (by simpa only [Cmp] using hc)
    | obj _ _ _ => cases d' <;> exact False.elim (by simpa only [Cmp] using hc)
    | dic _ _ => cases d' <;> exact False.elim (by simpa only [Cmp] using hc)
    | dit _ _ => cases d' <;> exact False.elim (by simpa only [Cmp] using hc)
  | succ n ih =>
    intro A d d' x y v u hu hc r r' rv ru
    have hu0 : A.units < cLine := by omega
    cases d with
    | non =>
      simp only [Rep] at r
      subst r
      cases rv
      cases d' with
      | non =>
        simp only [Rep] at r'
        subst r'
        cases ru
        exact ⟨SeqAt.EqAt.same _, SeqAt.RcAt.none_none , SeqAt.RcNeAt.none_none ⟩
      | bl x2 =>
        simp only [Rep] at r'
        subst r'
        cases ru
        exact ⟨SeqAt.EqAt.none_bool _, SeqAt.RcAt.none_bool _, SeqAt.RcNeAt.none_bool _⟩
      | int x2 =>
        simp only [Rep] at r'
        subst r'
        obtain ⟨t2, rfl⟩ := ru
        exact ⟨SeqAt.EqAt.none_int _ _, SeqAt.RcAt.none_int _ _, SeqAt.RcNeAt.none_int _ _⟩
      | str x2 =>
        simp only [Rep] at r'
        subst r'
        obtain ⟨t2, rfl⟩ := ru
        exact ⟨SeqAt.EqAt.none_str _ _, SeqAt.RcAt.none_str _ _, SeqAt.RcNeAt.none_str _ _⟩
      | tup ys =>
        simp only [Rep] at r'
        obtain ⟨l2, us, rfl, h2, q2⟩ := r'
        cases ru
        obtain ⟨is2, p2, k2, _⟩ := I.tuple (sqT_mono sF h2)
        exact ⟨SeqAt.EqAt.none_tuple  k2 hu0, SeqAt.RcAt.none_tuple  k2 hu0, SeqAt.RcNeAt.none_tuple  k2 hu0⟩
      | lst ys =>
        simp only [Rep] at r'
        obtain ⟨l2, us, rfl, h2, q2⟩ := r'
        cases ru
        obtain ⟨is2, p2, k2', _⟩ := I.list (sF.seq h2)
        have k2 := k2'.isList
        exact ⟨SeqAt.EqAt.none_list  k2 hu0, SeqAt.RcAt.none_list  k2 hu0, SeqAt.RcNeAt.none_list  k2 hu0⟩
      | exc C =>
        exact False.elim (by simpa only [Cmp] using hc)
      | ptr _ =>
        exact False.elim (by simpa only [Cmp] using hc)
      | obj _ _ _ =>
        exact False.elim (by simpa only [Cmp] using hc)
      | dic _ _ =>
        exact False.elim (by simpa only [Cmp] using hc)
      | dit _ _ =>
        exact False.elim (by simpa only [Cmp] using hc)
    | bl x1 =>
      simp only [Rep] at r
      subst r
      cases rv
      cases d' with
      | non =>
        simp only [Rep] at r'
        subst r'
        cases ru
        exact ⟨SeqAt.EqAt.bool_none _, SeqAt.RcAt.bool_none _, SeqAt.RcNeAt.bool_none _⟩
      | bl x2 =>
        simp only [Rep] at r'
        subst r'
        cases ru
        exact ⟨SeqAt.EqAt.bool_bool _ _, SeqAt.RcAt.bool_bool _ _, SeqAt.RcNeAt.bool_bool _ _⟩
      | int x2 =>
        exact False.elim (by simpa only [Cmp] using hc)
      | str x2 =>
        simp only [Rep] at r'
        subst r'
        obtain ⟨t2, rfl⟩ := ru
        exact ⟨SeqAt.EqAt.bool_str _ _ _, SeqAt.RcAt.bool_str _ _ _, SeqAt.RcNeAt.bool_str _ _ _⟩
      | tup ys =>
        simp only [Rep] at r'
        obtain ⟨l2, us, rfl, h2, q2⟩ := r'
        cases ru
        obtain ⟨is2, p2, k2, _⟩ := I.tuple (sqT_mono sF h2)
        exact ⟨SeqAt.EqAt.bool_tuple _ k2 hu0, SeqAt.RcAt.bool_tuple _ k2 hu0, SeqAt.RcNeAt.bool_tuple _ k2 hu0⟩
      | lst ys =>
        simp only [Rep] at r'
        obtain ⟨l2, us, rfl, h2, q2⟩ := r'
        cases ru
        obtain ⟨is2, p2, k2', _⟩ := I.list (sF.seq h2)
        have k2 := k2'.isList
        exact ⟨SeqAt.EqAt.bool_list _ k2 hu0, SeqAt.RcAt.bool_list _ k2 hu0, SeqAt.RcNeAt.bool_list _ k2 hu0⟩
      | exc C =>
        exact False.elim (by simpa only [Cmp] using hc)
      | ptr _ =>
        exact False.elim (by simpa only [Cmp] using hc)
      | obj _ _ _ =>
        exact False.elim (by simpa only [Cmp] using hc)
      | dic _ _ =>
        exact False.elim (by simpa only [Cmp] using hc)
      | dit _ _ =>
        exact False.elim (by simpa only [Cmp] using hc)
    | int x1 =>
      simp only [Rep] at r
      subst r
      obtain ⟨t1, rfl⟩ := rv
      cases d' with
      | non =>
        simp only [Rep] at r'
        subst r'
        cases ru
        exact ⟨SeqAt.EqAt.int_none _ _, SeqAt.RcAt.int_none _ _, SeqAt.RcNeAt.int_none _ _⟩
      | bl x2 =>
        exact False.elim (by simpa only [Cmp] using hc)
      | int x2 =>
        simp only [Rep] at r'
        subst r'
        obtain ⟨t2, rfl⟩ := ru
        exact ⟨SeqAt.EqAt.int_int _ _ _ _, SeqAt.RcAt.int_int _ _ _ _, SeqAt.RcNeAt.int_int _ _ _ _⟩
      | str x2 =>
        simp only [Rep] at r'
        subst r'
        obtain ⟨t2, rfl⟩ := ru
        exact ⟨SeqAt.EqAt.int_str _ _ _ _, SeqAt.RcAt.int_str _ _ _ _, SeqAt.RcNeAt.int_str _ _ _ _⟩
      | tup ys =>
        simp only [Rep] at r'
        obtain ⟨l2, us, rfl, h2, q2⟩ := r'
        cases ru
        obtain ⟨is2, p2, k2, _⟩ := I.tuple (sqT_mono sF h2)
        exact ⟨SeqAt.EqAt.int_tuple _ _ k2 hu0, SeqAt.RcAt.int_tuple _ _ k2 hu0, SeqAt.RcNeAt.int_tuple _ _ k2 hu0⟩
      | lst ys =>
        simp only [Rep] at r'
        obtain ⟨l2, us, rfl, h2, q2⟩ := r'
        cases ru
        obtain ⟨is2, p2, k2', _⟩ := I.list (sF.seq h2)
        have k2 := k2'.isList
        exact ⟨SeqAt.EqAt.int_list _ _ k2 hu0, SeqAt.RcAt.int_list _ _ k2 hu0, SeqAt.RcNeAt.int_list _ _ k2 hu0⟩
      | exc C =>
        exact False.elim (by simpa only [Cmp] using hc)
      | ptr _ =>
        exact False.elim (by simpa only [Cmp] using hc)
      | obj _ _ _ =>
        exact False.elim (by simpa only [Cmp] using hc)
      | dic _ _ =>
        exact False.elim (by simpa only [Cmp] using hc)
      | dit _ _ =>
        exact False.elim (by simpa only [Cmp] using hc)
    | str x1 =>
      simp only [Rep] at r
      subst r
      obtain ⟨t1, rfl⟩ := rv
      cases d' with
      | non =>
        simp only [Rep] at r'
        subst r'
        cases ru
        exact ⟨SeqAt.EqAt.str_none _ _, SeqAt.RcAt.str_none _ _, SeqAt.RcNeAt.str_none _ _⟩
      | bl x2 =>
        simp only [Rep] at r'
        subst r'
        cases ru
        exact ⟨SeqAt.EqAt.str_bool _ _ _, SeqAt.RcAt.str_bool _ _ _, SeqAt.RcNeAt.str_bool _ _ _⟩
      | int x2 =>
        simp only [Rep] at r'
        subst r'
        obtain ⟨t2, rfl⟩ := ru
        exact ⟨SeqAt.EqAt.str_int _ _ _ _, SeqAt.RcAt.str_int _ _ _ _, SeqAt.RcNeAt.str_int _ _ _ _⟩
      | str x2 =>
        simp only [Rep] at r'
        subst r'
        obtain ⟨t2, rfl⟩ := ru
        exact ⟨SeqAt.EqAt.str_str _ _ _ _, SeqAt.RcAt.str_str _ _ _ _, SeqAt.RcNeAt.str_str _ _ _ _⟩
      | tup ys =>
        simp only [Rep] at r'
        obtain ⟨l2, us, rfl, h2, q2⟩ := r'
        cases ru
        obtain ⟨is2, p2, k2, _⟩ := I.tuple (sqT_mono sF h2)
        exact ⟨SeqAt.EqAt.str_tuple _ _ k2 hu0, SeqAt.RcAt.str_tuple _ _ k2 hu0, SeqAt.RcNeAt.str_tuple _ _ k2 hu0⟩
      | lst ys =>
        simp only [Rep] at r'
        obtain ⟨l2, us, rfl, h2, q2⟩ := r'
        cases ru
        obtain ⟨is2, p2, k2', _⟩ := I.list (sF.seq h2)
        have k2 := k2'.isList
        exact ⟨SeqAt.EqAt.str_list _ _ k2 hu0, SeqAt.RcAt.str_list _ _ k2 hu0, SeqAt.RcNeAt.str_list _ _ k2 hu0⟩
      | exc C =>
        exact False.elim (by simpa only [Cmp] using hc)
      | ptr _ =>
        exact False.elim (by simpa only [Cmp] using hc)
      | obj _ _ _ =>
        exact False.elim (by simpa only [Cmp] using hc)
      | dic _ _ =>
        exact False.elim (by simpa only [Cmp] using hc)
      | dit _ _ =>
        exact False.elim (by simpa only [Cmp] using hc)
    | tup xs =>
      simp only [Rep] at r
      obtain ⟨l1, vs, rfl, h1, q1⟩ := r
      cases rv
      obtain ⟨is1, p1, k1, _⟩ := I.tuple (sqT_mono sF h1)
      cases d' with
      | non =>
        simp only [Rep] at r'
        subst r'
        cases ru
        exact ⟨SeqAt.EqAt.tuple_none  k1 hu0, SeqAt.RcAt.tuple_none  k1 hu0, SeqAt.RcNeAt.tuple_none  k1 hu0⟩
      | bl x2 =>
        simp only [Rep] at r'
        subst r'
        cases ru
        exact ⟨SeqAt.EqAt.tuple_bool _ k1 hu0, SeqAt.RcAt.tuple_bool _ k1 hu0, SeqAt.RcNeAt.tuple_bool _ k1 hu0⟩
      | int x2 =>
        simp only [Rep] at r'
        subst r'
        obtain ⟨t2, rfl⟩ := ru
        exact ⟨SeqAt.EqAt.tuple_int _ _ k1 hu0, SeqAt.RcAt.tuple_int _ _ k1 hu0, SeqAt.RcNeAt.tuple_int _ _ k1 hu0⟩
      | str x2 =>
        simp only [Rep] at r'
        subst r'
        obtain ⟨t2, rfl⟩ := ru
        exact ⟨SeqAt.EqAt.tuple_str _ _ k1 hu0, SeqAt.RcAt.tuple_str _ _ k1 hu0, SeqAt.RcNeAt.tuple_str _ _ k1 hu0⟩
      | tup ys =>
        simp only [Rep] at r'
        obtain ⟨l2, us, rfl, h2, q2⟩ := r'
        cases ru
        obtain ⟨is2, p2, k2, _⟩ := I.tuple (sqT_mono sF h2)
        simp only [Cmp] at hc
        have el1 : is1.length = xs.length := by rw [← p1.length, reps_len q1]
        have el2 : is2.length = ys.length := by rw [← p2.length, reps_len q2]
        have at_ : ∀ j (g1 : j < is1.toArray.size) (g2 : j < is2.toArray.size), SeqAt.EqAt A.in1 s is1.toArray[j] is2.toArray[j] ((fun j => match xs[j]?, ys[j]? with | some a, some b => deq a b | _, _ => false) j) := by
          intro j g1 g2
          have g1' : j < xs.length := by simpa [el1] using g1
          have g2' : j < ys.length := by simpa [el2] using g2
          have e1 : xs[j]? = some xs[j] := by simp [g1']
          have e2 : ys[j]? = some ys[j] := by simp [g2']
          obtain ⟨w1, f1, m1⟩ := reps_get q1 e1
          obtain ⟨w2, f2, m2⟩ := reps_get q2 e2
          obtain ⟨z1, c1, b1⟩ := p1.get f1
          obtain ⟨z2, c2, b2⟩ := p2.get f2
          have y1 : is1.toArray[j] = z1 := by simpa [List.getElem?_eq_some_iff] using (List.getElem?_eq_some_iff.mp c1).2
          have y2 : is2.toArray[j] = z2 := by simpa [List.getElem?_eq_some_iff] using (List.getElem?_eq_some_iff.mp c2).2
          simp only [e1, e2]
          rw [y1, y2]
          exact (ih A.in1 _ _ w1 w2 z1 z2 (by show A.units + 1 + n + 1 < cLine; omega) (hc j _ _ e1 e2) m1 m2 b1 b2).eq
        unfold deq
        have same : l1 = l2 → deqs xs ys = true := fun e => by
          have z := same_D I sF (n + 1) (.tup xs) (.tup ys) (.ref l1) (by simp only [Cmp]; exact hc) (by simp only [Rep]; exact ⟨l1, vs, rfl, h1, q1⟩) (by simp only [Rep]; exact ⟨l2, us, by rw [e], h2, q2⟩)
          unfold deq at z; exact z
        have ev : ((List.range (min is1.toArray.size is2.toArray.size)).all (fun j => match xs[j]?, ys[j]? with | some a, some b => deq a b | _, _ => false) && is1.toArray.size == is2.toArray.size) = deqs xs ys := by
          have s1 : is1.toArray.size = xs.length := by simp [el1]
          have s2 : is2.toArray.size = ys.length := by simp [el2]
          rw [s1, s2]
          by_cases hl : xs.length = ys.length
          · rw [range_min _ hl]
            exact deqs_all hl _ fun i a b z1 z2 => by simp only [z1, z2]
          · rw [deqs_len hl, beq_false_of_ne hl, Bool.and_false]
        have rc := SeqAt.RcAt.tuples k1 k2 hu0 at_
        have rn := SeqAt.RcNeAt.tuples k1 k2 hu0 at_
        rw [ev] at rc rn
        refine ⟨?_, rc, rn⟩
        by_cases e : l1 = l2
        · rw [same e]; subst e; exact SeqAt.EqAt.same _
        · exact SeqAt.EqAt.of_refs e rc
      | lst ys =>
        simp only [Rep] at r'
        obtain ⟨l2, us, rfl, h2, q2⟩ := r'
        cases ru
        obtain ⟨is2, p2, k2', _⟩ := I.list (sF.seq h2)
        have k2 := k2'.isList
        exact ⟨SeqAt.EqAt.tuple_list k1 k2 hu0, SeqAt.RcAt.tuple_list k1 k2 hu0, SeqAt.RcNeAt.tuple_list k1 k2 hu0⟩
      | exc C =>
        exact False.elim (by simpa only [Cmp] using hc)
      | ptr _ =>
        exact False.elim (by simpa only [Cmp] using hc)
      | obj _ _ _ =>
        exact False.elim (by simpa only [Cmp] using hc)
      | dic _ _ =>
        exact False.elim (by simpa only [Cmp] using hc)
      | dit _ _ =>
        exact False.elim (by simpa only [Cmp] using hc)
    | lst xs =>
      simp only [Rep] at r
      obtain ⟨l1, vs, rfl, h1, q1⟩ := r
      cases rv
      obtain ⟨is1, p1, k1', _⟩ := I.list (sF.seq h1)
      have k1 := k1'.isList
      cases d' with
      | non =>
        simp only [Rep] at r'
        subst r'
        cases ru
        exact ⟨SeqAt.EqAt.list_none  k1 hu0, SeqAt.RcAt.list_none  k1 hu0, SeqAt.RcNeAt.list_none  k1 hu0⟩
      | bl x2 =>
        simp only [Rep] at r'
        subst r'
        cases ru
        exact ⟨SeqAt.EqAt.list_bool _ k1 hu0, SeqAt.RcAt.list_bool _ k1 hu0, SeqAt.RcNeAt.list_bool _ k1 hu0⟩
      | int x2 =>
        simp only [Rep] at r'
        subst r'
        obtain ⟨t2, rfl⟩ := ru
        exact ⟨SeqAt.EqAt.list_int _ _ k1 hu0, SeqAt.RcAt.list_int _ _ k1 hu0, SeqAt.RcNeAt.list_int _ _ k1 hu0⟩
      | str x2 =>
        simp only [Rep] at r'
        subst r'
        obtain ⟨t2, rfl⟩ := ru
        exact ⟨SeqAt.EqAt.list_str _ _ k1 hu0, SeqAt.RcAt.list_str _ _ k1 hu0, SeqAt.RcNeAt.list_str _ _ k1 hu0⟩
      | tup ys =>
        simp only [Rep] at r'
        obtain ⟨l2, us, rfl, h2, q2⟩ := r'
        cases ru
        obtain ⟨is2, p2, k2, _⟩ := I.tuple (sqT_mono sF h2)
        exact ⟨SeqAt.EqAt.list_tuple k1 k2 hu0, SeqAt.RcAt.list_tuple k1 k2 hu0, SeqAt.RcNeAt.list_tuple k1 k2 hu0⟩
      | lst ys =>
        simp only [Rep] at r'
        obtain ⟨l2, us, rfl, h2, q2⟩ := r'
        cases ru
        obtain ⟨is2, p2, k2', _⟩ := I.list (sF.seq h2)
        have k2 := k2'.isList
        simp only [Cmp] at hc
        have el1 : is1.length = xs.length := by rw [← p1.length, reps_len q1]
        have el2 : is2.length = ys.length := by rw [← p2.length, reps_len q2]
        have at_ : ∀ j (g1 : j < is1.toArray.size) (g2 : j < is2.toArray.size), SeqAt.EqAt A.in1 s is1.toArray[j] is2.toArray[j] ((fun j => match xs[j]?, ys[j]? with | some a, some b => deq a b | _, _ => false) j) := by
          intro j g1 g2
          have g1' : j < xs.length := by simpa [el1] using g1
          have g2' : j < ys.length := by simpa [el2] using g2
          have e1 : xs[j]? = some xs[j] := by simp [g1']
          have e2 : ys[j]? = some ys[j] := by simp [g2']
          obtain ⟨w1, f1, m1⟩ := reps_get q1 e1
          obtain ⟨w2, f2, m2⟩ := reps_get q2 e2
          obtain ⟨z1, c1, b1⟩ := p1.get f1
          obtain ⟨z2, c2, b2⟩ := p2.get f2
          have y1 : is1.toArray[j] = z1 := by simpa [List.getElem?_eq_some_iff] using (List.getElem?_eq_some_iff.mp c1).2
          have y2 : is2.toArray[j] = z2 := by simpa [List.getElem?_eq_some_iff] using (List.getElem?_eq_some_iff.mp c2).2
          simp only [e1, e2]
          rw [y1, y2]
          exact (ih A.in1 _ _ w1 w2 z1 z2 (by show A.units + 1 + n + 1 < cLine; omega) (hc j _ _ e1 e2) m1 m2 b1 b2).eq
        unfold deq
        have same : l1 = l2 → deqs xs ys = true := fun e => by
          have z := same_D I sF (n + 1) (.lst xs) (.lst ys) (.ref l1) (by simp only [Cmp]; exact hc) (by simp only [Rep]; exact ⟨l1, vs, rfl, h1, q1⟩) (by simp only [Rep]; exact ⟨l2, us, by rw [e], h2, q2⟩)
          unfold deq at z; exact z
        have rcn : SeqAt.RcAt A s (.ref l1) (.ref l2) (deqs xs ys) ∧ SeqAt.RcNeAt A s (.ref l1) (.ref l2) (!deqs xs ys) := by
          by_cases hl : xs.length = ys.length
          · have ev : (List.range is1.toArray.size).all (fun j => match xs[j]?, ys[j]? with | some a, some b => deq a b | _, _ => false) = deqs xs ys := by
              have s1 : is1.toArray.size = xs.length := by simp [el1]
              rw [s1]
              exact deqs_all hl _ fun i a b z1 z2 => by simp only [z1, z2]
            have hz : is1.toArray.size = is2.toArray.size := by simp [el1, el2, hl]
            have rc := SeqAt.RcAt.lists k1 k2 hz hu0 at_
            have rn := SeqAt.RcNeAt.lists k1 k2 hz hu0 at_
            rw [ev] at rc rn
            exact ⟨rc, rn⟩
          · have hz : (is1.toArray.size != is2.toArray.size) = true := by simp [el1, el2, hl]
            rw [deqs_len hl]
            exact ⟨SeqAt.RcAt.lists_lengths k1 k2 hz hu0, SeqAt.RcNeAt.lists_lengths k1 k2 hz hu0⟩
        obtain ⟨rc, rn⟩ := rcn
        refine ⟨?_, rc, rn⟩
        by_cases e : l1 = l2
        · rw [same e]; subst e; exact SeqAt.EqAt.same _
        · exact SeqAt.EqAt.of_refs e rc
      | exc C =>
        exact False.elim (by simpa only [Cmp] using hc)
      | ptr _ =>
        exact False.elim (by simpa only [Cmp] using hc)
      | obj _ _ _ =>
        exact False.elim (by simpa only [Cmp] using hc)
      | dic _ _ =>
        exact False.elim (by simpa only [Cmp] using hc)
      | dit _ _ =>
        exact False.elim (by simpa only [Cmp] using hc)
    | exc C => cases d' <;> exact False.elim (by simpa only [Cmp] using hc)
    | ptr _ => cases d' <;> exact False.elim (by simpa only [Cmp] using hc)
    | obj _ _ _ => cases d' <;> exact False.elim (by simpa only [Cmp] using hc)
    | dic _ _ => cases d' <;> exact False.elim (by simpa only [Cmp] using hc)
    | dit _ _ => cases d' <;> exact False.elim (by simpa only [Cmp] using hc)
def gEq : D → D → (D → Prop) → Prop := fun x y P => Cmp 20 x y ∧ P (.bl (deq x y))
def gNe : D → D → (D → Prop) → Prop := fun x y P => Cmp 20 x y ∧ P (.bl (!deq x y))
theorem o_eq (hu : X.A.units + 21 < cLine) : OpR X (compareOp .Eq) (rUp X.K gEq) := by
  rintro pins s σ H x y u w Q I rx ry ⟨F, d1, d2, P, sF, r1, r2, h, k⟩
  exact (eq_D I sF 20 X.A d1 d2 x y u w hu h.1 r1 r2 rx ry).rc _ _ _ _ ⟨.bl _, H, I, rfl, k _ _ F H (Gr.refl sF) (by unfold Rep; rfl) h.2⟩
theorem o_ne (hu : X.A.units + 21 < cLine) : OpR X (compareOp .NotEq) (rUp X.K gNe) := by
  rintro pins s σ H x y u w Q I rx ry ⟨F, d1, d2, P, sF, r1, r2, h, k⟩
  exact (eq_D I sF 20 X.A d1 d2 x y u w hu h.1 r1 r2 rx ry).ne _ _ _ _ ⟨.bl _, H, I, rfl, k _ _ F H (Gr.refl sF) (by unfold Rep; rfl) h.2⟩
end
end L3

namespace L3
open PySem PySem.Spec PyProof.Rows L2

def excSub (K : PySem.W.Frag) (C D : Addr) : Bool := match K.lookup C with
  | some ⟨_, _, .cls cd, _⟩ => cd.mro.contains (.ref D)
  | _ => false

theorem excK_sub {K : PySem.W.Frag} {h : Heap} {C : Addr} (X : K.In h) (q : ExcK K C) (D : Addr) {nm qn : Str} {N : Addr} {bs bm : List Value} {hdct : Bool} {sn : List Str} {sub : List Value} {ab : Bool} {col : Option Bool} {dd : Option Addr} {k0 k1 k2 k3 k5 : Option Value} {newId : String}
    (e : h.get? C = some (excClassObj nm qn C N bs bm hdct sn sub ab col dd k0 k1 k2 k3 k5 newId)) : (Value.ref C :: bm).contains (.ref D) = excSub K C D := by
  unfold ExcK excB at q
  split at q
  · rename_i ho
    have z := X _ _ ho
    rw [e] at z
    unfold excSub
    rw [ho]
    unfold excClassObj at z
    cases z
    rfl
  · cases q

section
variable {M : Model} {A : Around} {E : Value → Shared → Prop} {h : Heap} {g : Array GenState} {d : Drawn} {t : Nat} {os : OsState}
  {nm q nm' q' : Str} {C N C' N' : Addr} {bs bm bs' bm' : List Value} {hdct hdct' : Bool} {sn sn' : List Str} {sub sub' : List Value} {ab ab' : Bool} {col col' : Option Bool} {dd dd' : Option Addr} {k0 k1 k2 k3 k5 j0 j1 j2 j3 j5 : Option Value} {newId newId' : String}
theorem exc_matches {a : Addr} {oe : Obj} {Q : Bool → Shared → Prop} (hC : h.get? C = some (excClassObj nm q C N bs bm hdct sn sub ab col dd k0 k1 k2 k3 k5 newId)) (hD : h.get? C' = some (excClassObj nm' q' C' N' bs' bm' hdct' sn' sub' ab' col' dd' j0 j1 j2 j3 j5 newId'))
    (he : h.get? a = some oe) (hcls : oe.cls = .ref C) (hbase : bm'.contains (.type "BaseException") = true) (hq : Q ((Value.ref C :: bm).contains (.ref C')) ⟨h, g, d, t, os⟩) : wpAny M A (excMatches (.ref a) (.ref C')) Q E ⟨h, g, d, t, os⟩ := by
  have cb : (Value.ref C' :: bm').contains (.type "BaseException") = true := by rw [List.contains_cons, hbase, Bool.or_true]
  have nt := tc_notTuple
  generalize hk : (Value.ref C :: bm).contains (.ref C') = k at hq
  unfold excMatches
  repeat (first | (with_reducible refine wpAny_loadPart_at he ?_; rw [hcls]) | with_reducible refine wpAny_loadPart_at hD ?_ | (with_reducible refine wpAny_isSubtype_exc hD ?_; rw [cb]) | (with_reducible refine wpAny_isSubtype_exc hC ?_; rw [hk]) | wp_step)
  cases k <;> (wp_walk; exact hq)
end

abbrev _root_.L2.Cx.hand (X : Cx) (a : Addr) : Cx := { X with A := X.A.mark (some (.ref a)), calm := false }
section
variable {X : Cx} {pins : List (Addr × Obj)} {σ : St} {H : Hp} {s : Shared} {a : Addr}
theorem ok_hand (ok : X.Ok) (a : Addr) : (X.hand a).Ok :=
  ⟨ok.mod, ok.kind, ok.glob, ok.blt, ok.above, ok.inj, ok.has, ok.cab, fun z => absurd z (by simp), ok.frames, ok.stk, ok.exf, ok.bs, ok.bsz, ok.noex, ok.exfs, ok.funs, ok.frf⟩
theorem inv_hand (I : Inv X pins σ H s) (a : Addr) : Inv (X.hand a) pins σ H s := ⟨ok_hand I.ok a, I.os, I.bare, I.base, I.loc, I.cell, I.free, I.freeC, I.pin, I.hok, I.len⟩
theorem ok_wsh (ok : X.Ok) (z : Wsh) : (X.wsh z).Ok := ⟨ok.mod, ok.kind, ok.glob, ok.blt, ok.above, ok.inj, ok.has, ok.cab, ok.hd, ok.frames, ok.stk, ok.exf, ok.bs, ok.bsz, ok.noex, ok.exfs, ok.funs, ok.frf⟩
theorem inv_pn {z : Wsh} {xe : Value → Shared → Prop} (I : Inv (X.wsh z) pins σ H s) : Inv (X.wsh ⟨xe, z.pn ++ pins⟩) [] σ H s :=
  ⟨ok_wsh I.ok _, I.os, I.bare, I.base, I.loc, I.cell, I.free, I.freeC, fun p hp => I.pin p (by simpa using hp), I.hok, I.len⟩
theorem inv_pn' {z : Wsh} {xe : Value → Shared → Prop} {pins' : List (Addr × Obj)} (I : Inv (X.wsh ⟨xe, z.pn ++ pins⟩) pins' σ H s) : Inv (X.wsh z) pins σ H s :=
  ⟨ok_wsh I.ok _, I.os, I.bare, I.base, I.loc, I.cell, I.free, I.freeC, fun p hp => I.pin p (List.mem_append_left _ hp), I.hok, I.len⟩
theorem sp_pn {z : Wsh} {xe : Value → Shared → Prop} {D : Ends} {f : Flow} {pins' : List (Addr × Obj)} (h : SP (X.wsh ⟨xe, z.pn ++ pins⟩) pins' D f s) : SP (X.wsh z) pins D f s := by
  cases f with
  | next => obtain ⟨σ', H', I, q⟩ := h; exact ⟨σ', H', inv_pn' I, q⟩
  | brk => obtain ⟨σ', H', I, q⟩ := h; exact ⟨σ', H', inv_pn' I, q⟩
  | cont => obtain ⟨σ', H', I, q⟩ := h; exact ⟨σ', H', inv_pn' I, q⟩
  | ret u => obtain ⟨v, σ', H', I, r, q⟩ := h; exact ⟨v, σ', H', inv_pn' I, r, q⟩
theorem inv_unhand {z : Wsh} {xe : Value → Shared → Prop} (ok : (X.wsh z).Ok) (I : Inv ((X.hand a).wsh ⟨xe, z.pn⟩) pins σ H s) : Inv (X.wsh z) pins σ H s :=
  ⟨ok, I.os, I.bare, I.base, I.loc, I.cell, I.free, I.freeC, I.pin, I.hok, I.len⟩
theorem sp_unhand {z : Wsh} {xe : Value → Shared → Prop} {D : Ends} {f : Flow} (ok : (X.wsh z).Ok) (h : SP ((X.hand a).wsh ⟨xe, z.pn⟩) pins D f s) : SP (X.wsh z) pins D f s := by
  cases f with
  | next => obtain ⟨σ', H', I, q⟩ := h; exact ⟨σ', H', inv_unhand ok I, q⟩
  | brk => obtain ⟨σ', H', I, q⟩ := h; exact ⟨σ', H', inv_unhand ok I, q⟩
  | cont => obtain ⟨σ', H', I, q⟩ := h; exact ⟨σ', H', inv_unhand ok I, q⟩
  | ret u => obtain ⟨v, σ', H', I, r, q⟩ := h; exact ⟨v, σ', H', inv_unhand ok I, r, q⟩
end

def noX : XW := fun _ _ => False
theorem EndR.base {K : PySem.W.Frag} {F0 H0 F H : Hp} {D2 : End2} {D : Ends} (k : EndR K F0 H0 F D2 D) (g : Gr F0 H0 F H) : EndR K F H0 F D2 D :=
  ⟨fun Γ F' H' σ R s h => k.nx Γ F' H' σ (R.unbase g) s h, fun Γ F' H' σ R s h => k.bk Γ F' H' σ (R.unbase g) s h, fun Γ F' H' σ R s h => k.ct Γ F' H' σ (R.unbase g) s h, fun d v F' H' gr r h => k.rt d v F' H' (g.unbase gr) r h, fun d v F' H' gr r h => k.rf d v F' H' (g.unbase gr) (rep_mono (lessL_anti g.f) d v r) h, fun t v as F' H' gr nd hn r h => k.rT t v as F' H' (g.unbase gr) nd hn r h, fun d v Γ F' H' σ R r h => k.rm d v Γ F' H' σ (R.unbase g) r h⟩
section
variable {X : Cx} {pins : List (Addr × Obj)} {σ : St} {H : Hp} {s : Shared}
theorem ctx_never {F0 H0 : Hp} {pn : List (Addr × Obj)} : Ctx (X.wsh ⟨fun _ _ => False, pn⟩) F0 H0 noX :=
  ⟨fun _ _ _ _ _ _ _ _ _ _ h => by obtain ⟨_, _, _, _, _, _, _, _, _, _, _, _, _, _, _, _, h, _⟩ := h; exact h.elim, PassesOwn.never⟩
theorem unbind_ok {M : Model} {A : Around} {E : Value → Shared → Prop} {Q : Unit → Shared → Prop} {i : Nat} {n : Str} {v : V} (I : Inv X pins σ H s) (hN : X.N.Nodup) (hi : X.N[i]? = some n) (hk : X.env.scope.names.lookup n = some .local) (hσ : σ[i]? = some (some v))
    (h : ∀ s', Inv X pins (σ.set i none) H s' → Q () s') : wpAny M A (unbindName X.env n) Q E s := by
  obtain ⟨m, hn, hl⟩ := id I.loc
  obtain ⟨u, r, l⟩ := hl i n v hi hσ (.inl hk)
  have hm : m n = some u := by
    rcases l with ⟨_, e⟩ | ⟨k, _⟩
    · exact e
    · have k' : X.env.scope.names.lookup n = some .cell ∨ X.env.scope.names.lookup n = some .free := k
      rw [hk] at k'
      rcases k' with k' | k' <;> cases k'
  have hcls : (X.env.scope.kind == .class || (X.env.scope.kind == .module && X.env.locals != X.env.globals)) = false := by rw [I.ok.kind]; rfl
  have hiσ : i < σ.length := (List.getElem?_eq_some_iff.mp hσ).1
  have cne := I.cne
  refine wpAny_unbindName_local hk hn hm hcls fun h' u' hn' hs => ?_
  have old : ∀ b o, X.s₀.heap.get? b = some o → b ≠ X.env.locals := fun b o e => Nat.ne_of_lt (Nat.lt_of_lt_of_le (Heap.lt_size e) I.ok.above)
  refine h _ ⟨I.ok, I.os, I.bare, ⟨fun b o e n hb hx => ?_, fun b o e n hb hx => ?_, I.base.free, fun b o e hx => ?_, I.base.tups, I.base.frzs, I.base.tbls⟩, ⟨_, hn', fun j y v' e1 e2 e3 => ?_⟩, fun y c e => ?_, I.free, I.freeC, fun p hp => ?_, fun b ob e => ?_, by simpa using I.len⟩
  · exact (hs.2 b (old b o e)).trans (I.base.keep b o e n hb hx)
  · obtain ⟨sl, e1⟩ := I.base.slot b o e n hb hx
    exact ⟨sl, (hs.2 b (old b o e)).trans e1⟩
  · obtain ⟨o', e1⟩ := I.base.there b o e hx
    exact ⟨o', (hs.2 b (old b o e)).trans e1⟩
  · have hj : i ≠ j := fun z => by
      subst z
      rw [List.getElem?_set_self hiσ] at e2; cases e2
    rw [List.getElem?_set_ne hj] at e2
    obtain ⟨w, r', q⟩ := hl j y v' e1 e2 e3
    refine ⟨w, r', ?_⟩
    rcases q with ⟨k, e⟩ | ⟨k, c, e, z⟩
    · refine .inl ⟨k, ?_⟩
      have : y ≠ n := fun e => hj (nodup_ix hN hi (e ▸ e1))
      simp [this, e]
    · exact .inr ⟨k, c, e, z.sameBut hs (cne y c e)⟩
  · obtain ⟨w', z⟩ := I.cell y c e
    exact ⟨w', z.sameBut hs (cne y c e)⟩
  · obtain ⟨e, n, ne, nf, d⟩ := I.pin p hp
    exact ⟨(hs.2 p.1 ne).trans e, n, ne, nf, d⟩
  · refine (I.hok b ob e).stay (fun c w' hc q => (hs.2 c ?_).trans q) (fun _ q => q) fun _ _ q => q
    rintro rfl
    rcases hc with z | hc
    · rw [← z, I.free] at e; cases e
    · rw [I.free] at hc; cases hc
end
def cTry (K : PySem.W.Frag) (Cd : Addr) (tb th : TS2) : TS2 := fun D Γ _ => tb D Γ fun Γ1 Cv => ∃ C, Cv = .ref C ∧ ExcK K C ∧ excSub K C Cd = true ∧ th D Γ1 noX
def cTryA (K : PySem.W.Frag) (Cd : Addr) (i : Nat) (tb th : TS2) : TS2 := fun D Γ _ => tb D Γ fun Γ1 Cv => ∃ C, Cv = .ref C ∧ ExcK K C ∧ excSub K C Cd = true ∧
  th { nx := fun Γ' => D.nx (Γ'.set i .no), rt := D.rt, bk := fun Γ' => D.bk (Γ'.set i .no), ct := fun Γ' => D.ct (Γ'.set i .no) } (Γ1.set i (.pu (.exc C))) noX
section
variable {X : Cx} {F0 H0 : Hp} {pos np hp : Pos} {x n : Str} {Cd : Addr} {body suite : List Stmt} {b₀ : Stmt} {tb th : TS2}
end
end L3

namespace L3
open PySem PySem.Spec PyProof.Rows L2

def cU (g : D → (D → Prop) → Prop) (ta : TE2) : TE2 := fun Γ P E => ta Γ (fun d Γ1 => g d fun d' => P d' Γ1) E
def gNeg : D → (D → Prop) → Prop := fun x P => match x with | .int i => P (.int (-i)) | _ => False
def rUpA (K : PySem.W.Frag) (g : List D → (D → Prop) → Prop) : List V → Hp → VK → Prop := fun vs H Q => ∃ F ds P, Same F H ∧ Reps K F ds vs ∧ g ds P ∧ ∀ d z F' H', Gr F H F' H' → Rep K F' d z → P d → Q z H'
def cCB (g : List D → (D → Prop) → Prop) (t : TF2) : TE2 := fun Γ P E => t Γ (fun ds Γ1 => g ds fun d => P d Γ1) E
def gIx : D → D → (D → Prop) → Prop := fun x y P => match x, y with
  | .lst xs, .int i => ∃ d, atI xs i = some d ∧ P d
  | .tup xs, .int i => ∃ d, atI xs i = some d ∧ P d
  | .str z, .int i => ∃ c, z.length ≤ sizeLine ∧ atI z.cps.toList i = some c ∧ P (.str ⟨#[c]⟩)
  | _, _ => False
theorem atI_reps {K : PySem.W.Frag} {F : Hp} {ds : List D} {vs : List V} {i : Int} {d : D} (r : Reps K F ds vs) (h : atI ds i = some d) : ∃ v, atI vs i = some v ∧ Rep K F d v := by
  unfold atI at h ⊢
  rw [← reps_len r]
  cases q : ixN ds.length i with
  | none => rw [q] at h; cases h
  | some j =>
    rw [q] at h
    exact reps_get r h
section
variable {X : Cx} {F0 H0 : Hp} {a b e : Expr} {es : List Expr} {pos p : Pos} {ta tb te : TE2} {t : TF2} {x : Str}
theorem qe_neg (ha : QE X F0 H0 a ta) : QE X F0 H0 (.UnaryOp .USub a pos) (cU gNeg ta) := fun z E cx =>
  peC (pe_un un_neg (ha z E cx)) fun σ H Q hq1 => by obtain ⟨F, Γ, P, R, h, k⟩ := hq1; exact ⟨F, Γ, _, R, h, fun d Γ1 F1 H1 v R1 s1 r q => by
    cases d with
    | int i =>
      unfold Rep at r
      exact ⟨i, r, k _ _ _ _ _ R1 s1 (by unfold Rep; rfl) q⟩
    | _ => exact False.elim q⟩
theorem cCB_up {K : PySem.W.Frag} {g : List D → (D → Prop) → Prop} {E : XW} {σ : St} {H : Hp} {Q : VK} (h : upE K F0 H0 (cCB g t) E σ H Q) : tCB (rUpA K g) (upA K F0 H0 t E) σ H Q := by
  obtain ⟨F, Γ, P, R, h, k⟩ := h
  exact ⟨F, Γ, _, R, h, fun ds Γ1 F1 H1 vs R1 s1 r1 h1 => ⟨F1, ds, _, R1.g, r1, h1, fun d z F' H' gr rz hp => k d Γ1 F' H' z (R1.grow gr) (s1.trans gr.f) rz hp⟩⟩
theorem qe_callB {id : String} {g : List D → (D → Prop) → Prop} (hc : ∀ z, CallR (X.wsh z) (.builtin id) (rUpA X.K g)) (hg : Gl X x) (hm : X.mg x = none) (hv : bootBuiltins x = some (.builtin id)) (ha : QA X F0 H0 (e :: es) t) (hn : x ≠ "__name__" := by decide) (hdb : (x == ("__debug__" : Str)) = false := by decide)
    (he : starEach (e :: es) X.env = (false, eval e X.env) :: starEach es X.env := by rfl) (hpl : (backTo pos (starEach es X.env)).any (·.1) = false := by rfl) : QE X F0 H0 (.Call (.Name x p) (e :: es) [] pos) (cCB g t) := fun z E cx =>
  peC (pe_callB (X := X.wsh z) (hc z) hg hm hv (ha z E cx) hn hdb he hpl) fun _ _ _ h => cCB_up h
theorem qe_ix (ha : QE X F0 H0 a ta) (hb : QE X F0 H0 b tb) (hs : PlainIx b) : QE X F0 H0 (.Subscript a b pos) (cB gIx ta tb) := fun z E cx =>
  peC (pe_ix (X := X.wsh z) (r := rUp X.K gIx) (by
    rintro value slice pins s σ H x y v u Q I rx ry ⟨F, d1, d2, P, sF, r1, r2, h, k⟩ hs
    unfold gIx at h
    split at h
    · unfold Rep at r1 r2
      obtain ⟨p, vs, rfl, hq, rs⟩ := r1
      subst r2
      obtain ⟨d, e, hp⟩ := h
      obtain ⟨w, ew, rw'⟩ := atI_reps rs e
      exact ix_list value slice pins s σ H _ _ v u Q I rx ry ⟨p, vs, _, w, rfl, rfl, sF.seq hq, ew, k _ _ F H (Gr.refl sF) rw' hp⟩ hs
    · unfold Rep at r1 r2
      obtain ⟨p, vs, rfl, hq, rs⟩ := r1
      subst r2
      obtain ⟨d, e, hp⟩ := h
      obtain ⟨w, ew, rw'⟩ := atI_reps rs e
      exact ix_tup value slice pins s σ H _ _ v u Q I rx ry ⟨p, vs, _, w, rfl, rfl, sqT_mono sF hq, ew, k _ _ F H (Gr.refl sF) rw' hp⟩ hs
    · unfold Rep at r1 r2
      subst r1 r2
      obtain ⟨c, hz, e, hp⟩ := h
      exact ix_str value slice pins s σ H _ _ v u Q I rx ry ⟨_, _, c, rfl, rfl, hz, e, k _ _ F H (Gr.refl sF) (by unfold Rep; rfl) hp⟩ hs
    · exact h.elim) (ha z E cx) (hb z E cx) hs) fun _ _ _ h => cB_up h
end

def u_abs : List D → (D → Prop) → Prop := fun ds P => match ds with | [.int i] => P (.int (if i < 0 then -i else i)) | _ => False
def u_len : List D → (D → Prop) → Prop := fun ds P => match ds with | [.lst xs] => P (.int xs.length) | [.tup xs] => P (.int xs.length) | [.str z] => z.length ≤ sizeLine ∧ P (.int z.length) | _ => False
def u_max : List D → (D → Prop) → Prop := fun ds P => match ds with | [.int i, .int j] => P (.int (if j > i then j else i)) | _ => False
def u_min : List D → (D → Prop) → Prop := fun ds P => match ds with | [.int i, .int j] => P (.int (if j < i then j else i)) | _ => False
section
variable {X : Cx}
theorem q_len : CallR X (.builtin "len") (rUpA X.K u_len) := by
  rintro pins s σ H xs us Q I r ⟨F, ds, P, sF, rs, h, k⟩
  unfold u_len at h
  split at h
  · unfold Reps Reps Rep at rs
    obtain ⟨v, _, rfl, ⟨p, vs, rfl, hq, rs⟩, rfl⟩ := rs
    rw [reps_len rs] at h
    exact call_len_seq pins s σ H _ us Q I r ⟨p, vs, rfl, .inl (sF.seq hq), k _ _ F H (Gr.refl sF) (by unfold Rep; rfl) h⟩
  · unfold Reps Reps Rep at rs
    obtain ⟨v, _, rfl, ⟨p, vs, rfl, hq, rs⟩, rfl⟩ := rs
    rw [reps_len rs] at h
    exact call_len_seq pins s σ H _ us Q I r ⟨p, vs, rfl, .inr (sqT_mono sF hq), k _ _ F H (Gr.refl sF) (by unfold Rep; rfl) h⟩
  · unfold Reps Reps Rep at rs
    obtain ⟨v, _, rfl, rfl, rfl⟩ := rs
    exact call_len_str pins s σ H _ us Q I r ⟨_, rfl, h.1, k _ _ F H (Gr.refl sF) (by unfold Rep; rfl) h.2⟩
  · exact h.elim
end

def tyD : D → Option String
  | .non => some "NoneType" | .bl _ => some "bool" | .int _ => some "int" | .str _ => some "str" | .tup _ => some "tuple" | .lst _ => some "list" | .exc _ => none | .ptr _ => none | .obj _ _ _ => none | .dic _ _ => none | .dit _ _ => none
def isiB (d : D) (T : String) : Option Bool := (tyD d).bind fun S => PySem.W.kitOne [] (.type S) (.type T)
def cIsi (T : String) (ta : TE2) : TE2 := fun Γ P E => ta Γ (fun d Γ1 => match isiB d T with | some b => P (.bl b) Γ1 | none => False) E
theorem kitOne_any (K K' : PySem.W.Frag) (S T : String) : PySem.W.kitOne K (.type S) (.type T) = PySem.W.kitOne K' (.type S) (.type T) := rfl
section
variable {X : Cx} {pins : List (Addr × Obj)} {σ : St} {F H : Hp} {s : Shared}
theorem isi_ok {A : Around} {E : Value → Shared → Prop} {Q : Value → Shared → Prop} {d : D} {x : V} {u c : Value} {S : String} {b : Bool} (I : Inv X pins σ H s) (sF : Same F H) (r : Rep X.K F d x) (rx : RelV x u) (hS : tyD d = some S) (e : PySem.W.kitOne X.K (.type S) c = some b)
    (h : ∀ tk, Q (.bool b) { s with toks := tk }) : wpAny (model X.prog X.w) A (call (.builtin "isinstance") [u, c]) Q E s := by
  cases d with
  | non => unfold Rep at r; subst r; cases hS; exact isinst_ok I rx (.non) e h
  | bl y => unfold Rep at r; subst r; cases hS; exact isinst_ok I rx (.bl y) e h
  | int y => unfold Rep at r; subst r; cases hS; exact isinst_ok I rx (.int y) e h
  | str y => unfold Rep at r; subst r; cases hS; exact isinst_ok I rx (.str y) e h
  | tup xs =>
    unfold Rep at r; cases hS
    obtain ⟨a, vs, rfl, hq, _⟩ := r
    cases rx
    obtain ⟨its, _, ⟨o, h1, h2, _⟩, _⟩ := I.tuple (sqT_mono sF hq)
    exact PySem.W.kia_one PySem.W.kitx_tuple I.kIn ⟨o, h1, h2⟩ e (fun z => nomatch z) h
  | lst xs =>
    unfold Rep at r; cases hS
    obtain ⟨a, vs, rfl, hq, _⟩ := r
    cases rx
    obtain ⟨its, _, ⟨o, n, h1, h2, _⟩, _⟩ := I.list (sF.seq hq)
    exact PySem.W.kia_one PySem.W.kitx_list I.kIn ⟨o, h1, h2⟩ e (fun z => nomatch z) h
  | exc C => cases hS
  | ptr _ => cases hS
  | obj _ _ _ => cases hS
  | dic _ _ => cases hS
  | dit _ _ => cases hS
end
section
variable {X : Cx} {F0 H0 : Hp} {a : Expr} {pos p pt : Pos} {ta : TE2} {x : Str} {T : String}
theorem qe_isi (ha : QE X F0 H0 a ta) (hg : Gl X "isinstance") (hm : X.mg "isinstance" = none) (hgT : Gl X x) (hmT : X.mg x = none) (hv : bootBuiltins x = some (.type T)) (hn : x ≠ "__name__" := by decide) (hd : (x == ("__debug__" : Str)) = false := by decide)
    (he : starEach [a, .Name x pt] X.env = (false, eval a X.env) :: starEach [.Name x pt] X.env := by rfl) (he2 : starEach [.Name x pt] X.env = [(false, eval (.Name x pt) X.env)] := by rfl) : QE X F0 H0 (.Call (.Name "isinstance" p) [a, .Name x pt] [] pos) (cIsi T ta) := fun z E cx => by
  have pT : PE (X.wsh z) (.Name x pt) (tC (.ty T)) := pe_bltn (X := X.wsh z) hgT hmT hv rfl hn hd
  refine peC (pe_callB (X := X.wsh z) (id := "isinstance") (r := fun vs H Q => ∃ (F : Hp) (d : D) (x : V) (P : Bool → Prop), vs = [x, .ty T] ∧ Same F H ∧ Rep X.K F d x ∧ (match isiB d T with | some b => P b | none => False) ∧ ∀ b, P b → Q (.bl b) H) ?_ hg hm boot_isinstance (pa_cons (ha z E cx) (pa_cons pT pa_nil (by rw [he2]; rfl)) he) (by decide) (by decide) he (by rw [he2]; rfl)) fun σ H Q ⟨F, Γ, P, R, h, k⟩ => ?_
  · rintro pins s σ H xs us Q I r ⟨F, d, y, P, e1, sF, rd, hb, k⟩
    subst e1
    obtain ⟨u, w, rfl, ru, rw'⟩ := vals2 r
    obtain rfl : w = Value.type T := rw'
    unfold isiB at hb
    cases hS : tyD d with
    | none => rw [hS] at hb; exact hb.elim
    | some S =>
      rw [hS] at hb
      cases hk : PySem.W.kitOne [] (.type S) (.type T) with
      | none => simp only [Option.bind_some, hk] at hb
      | some b =>
        simp only [Option.bind_some, hk] at hb
        exact isi_ok I sF rd ru hS (kitOne_any X.K [] S T ▸ hk) fun tk => ⟨.bl b, H, I.tok tk, rfl, k b hb⟩
  · refine ⟨F, Γ, _, R, h, fun d Γ1 F1 H1 v R1 s1 r1 h1 => ⟨F1, d, v, fun b => P (.bl b) Γ1, rfl, R1.g, r1, h1, fun b hp => k _ _ _ _ _ R1 s1 (by unfold Rep; rfl) hp⟩⟩
end

def cRaise (C : Addr) (t : TF2) : TS2 := fun _ Γ E => t Γ (fun ds Γ1 => ds.length ≤ sizeLine ∧ E Γ1 (.ref C)) E
section
variable {X : Cx} {F0 H0 : Hp} {e : Expr} {es : List Expr} {pos np cpos : Pos} {t : TF2} {x : Str} {C : Addr}
theorem qs_raise (hh : X.calm = true) (hg : Gl X x) (hm : X.mg x = some (.ref C)) (hC : ExcC X.K C) (ha : QA X F0 H0 (e :: es) t)
    (hd : (x == ("__debug__" : Str)) = false := by decide) (he : starEach (e :: es) X.env = (false, eval e X.env) :: starEach es X.env := by rfl) (hpl : (backTo cpos (starEach es X.env)).any (·.1) = false := by rfl) :
    QS X F0 H0 (.Raise (some (.Call (.Name x np) (e :: es) [] cpos)) none pos) (cRaise C t) := by
  rintro z E cx pins s σ H D I ⟨F, Γ, D2, R, h, k⟩
  refine raise_ok (X := X.wsh z) (E := fun C' dx H1 => ∃ F1 Γ1, SR X.K F0 H0 F1 H1 σ Γ1 ∧ E Γ1 (.ref C)) hg hm hC (ha z E cx) hh I ⟨F, Γ, _, R, h, fun ds Γ1 F1 H1 vs R1 s1 r1 h1 => ⟨by rw [← reps_len r1]; exact h1.1, F1, Γ1, R1, h1.2⟩⟩ (fun H1 s1 e s' I1 hx => ?_) hd he hpl
  obtain ⟨a, C', H', B, h1, h2, h3, h4, h5, h6, h7, h8, rfl, h9, rfl, F1, Γ1, R1, hE⟩ := hx
  exact cx.px pins σ Γ1 F1 _ s1 e s' I1 R1 ⟨a, _, _, B, h1, h2, h3, h4, h5, h6, h7, h8, hE, rfl, .refl _⟩
end

structure Fn2 (P : Program) (w : World) (K : PySem.W.Frag) (mg : Str → Option Value) (base : Heap) (x : Str) (k : Nat) (ps : List Str) (sp : Sp2) : Prop where
  ex : ∃ f fd, FnOk P w K mg base (CX1 P w) k f fd ps (spUp K sp) ∧ mg x = some (.ref f) ∧ PySem.W.keepIn K (.ref f) = true ∧ Binds K fd ps []
section
variable {X : Cx} {F0 H0 : Hp} {e : Expr} {es : List Expr} {pos p : Pos} {x : Str} {ps : List Str} {k : Nat} {sp : Sp2} {t : TF2}
theorem qe_callF (G : Fn2 X.prog X.w X.K X.mg X.base x k ps sp) (hr : Room k X.A) (hg : Gl X x) (ha : QA X F0 H0 (e :: es) t) (hdb : (x == ("__debug__" : Str)) = false := by decide) (he : starEach (e :: es) X.env = (false, eval e X.env) :: starEach es X.env := by rfl) (hpl : (backTo pos (starEach es X.env)).any (·.1) = false := by rfl) :
    QE X F0 H0 (.Call (.Name x p) (e :: es) [] pos) (cCall sp t) := by
  obtain ⟨f, fd, h1, h2, h3, h4⟩ := G.ex
  exact qe_call h1 hr hg h2 h3 h4 ha hdb he hpl
end
end L3

namespace L3
open PySem PySem.Spec PyProof.Rows L2

section
variable {X : Cx} {pins : List (Addr × Obj)} {σ : St} {H : Hp} {s : Shared} {a : Addr} {o : HO}
theorem Inv.track (I : Inv X pins σ H s) (hn : H a = none) (ok : ObjOk X.prog X.w (L2.upd H a o) s.heap a o) (n0 : X.s₀.heap.get? a = none) (nl : a ≠ X.env.locals) (nc : ∀ x c, X.env.cells.lookup x = some c → c ≠ a) (np : ∀ p ∈ X.pn ++ pins, p.1 ≠ a) : Inv X pins σ (L2.upd H a o) s := by
  refine ⟨I.ok, I.os, I.bare, ⟨I.base.keep, I.base.slot, fun b u e n hx => ?_, I.base.there, fun b xs e => ?_, fun b u xs e => ?_, fun b ps e => ?_⟩, I.loc, I.cell, ?_, fun x c e => ?_, fun p hp => ?_, fun b u e => ?_, I.len⟩
  · rw [upd_ne (fun z => by rw [z, n0] at e; cases e)]; exact I.base.free b u e n hx
  · have q := I.base.tups b xs e
    rw [upd_ne (ne_of_none q hn)]; exact q
  · have q := I.base.frzs b u xs e
    rw [upd_ne (ne_of_none q hn)]; exact q
  · obtain ⟨m, q⟩ := I.base.tbls b ps e
    exact ⟨m, by rw [upd_ne (ne_of_none q hn)]; exact q⟩
  · rw [upd_ne (Ne.symm nl)]; exact I.free
  · rw [upd_ne (nc x c e)]; exact I.freeC x c e
  · obtain ⟨e, n, ne, nf, d⟩ := I.pin p hp
    exact ⟨e, by rw [upd_ne (np p hp)]; exact n, ne, nf, d⟩
  · by_cases hb : b = a
    · subst hb; rw [upd_same] at e; cases e; exact ok
    · rw [upd_ne hb] at e
      exact (I.hok b u e).stay (fun c v _ q => q) (fun c q => by rw [upd_ne (ne_of_none q hn)]; exact q) fun c xs q => by rw [upd_ne (ne_of_none q hn)]; exact q
end
section
variable {X : Cx} {F0 H0 : Hp} {pos np hp : Pos} {x n : Str} {Cd : Addr} {body suite : List Stmt} {b₀ : Stmt} {tb th : TS2} {i : Nat}
theorem qs_tryA (hex : X.ex = []) (hst : X.stack = X.env :: X.outer) (hfr : X.env.frame = some X.env.locals) (hN : X.N.Nodup) (hi : X.N[i]? = some n) (hl : X.env.scope.names.lookup n = some .local) (hg : Gl X x) (hm : X.mg x = some (.ref Cd)) (hC : ExcC X.K Cd) (hb : ∀ F, QSs X F H0 body tb)
    (hh : ∀ a F, HandAt F a → QSs (X.hand a) F H0 (b₀ :: suite) th) (hd : (x == ("__debug__" : Str)) = false := by decide) : QS X F0 H0 (.Try body [.ExceptHandler (some (.Name x np)) (some n) (b₀ :: suite) hp] [] [] pos) (cTryA X.K Cd i tb th) := by
  rintro z E cx pins s σ H D I ⟨F, Γ, D2, R, h, k⟩
  refine wpAny_Try_except ?_
  have key := hb F ⟨fun e s₁ => wpAny (model X.prog X.w) X.A (noteFrame e X.env) (fun _ s₂ => wpAny (model X.prog X.w) X.A (setFlight e none) (fun _ s₃ => wpAny (model X.prog X.w) X.A (handleBy e X.env [.ExceptHandler (some (.Name x np)) (some n) (b₀ :: suite) hp]) (SP (X.wsh z) pins D) z.xe s₃) z.xe s₂) z.xe s₁, z.pn ++ pins⟩
    (fun Γ1 Cv => ∃ C, Cv = .ref C ∧ ExcK X.K C ∧ excSub X.K C Cd = true ∧ th { nx := fun Γ' => D2.nx (Γ'.set i .no), rt := D2.rt, bk := fun Γ' => D2.bk (Γ'.set i .no), ct := fun Γ' => D2.ct (Γ'.set i .no) } (Γ1.set i (.pu (.exc C))) noX) ⟨?px, PassesOwn.looking⟩ [] s σ H D (inv_pn I) ⟨F, Γ, D2, R.base, h, k.base R.gr⟩
  · refine wpAny_mono key (fun f s1 q => ?_) fun _ _ q => q
    have q' := sp_pn q
    cases f with
    | next => exact wpAny_execs_nil q'
    | ret v => exact q'
    | brk => exact q'
    | cont => exact q'
  · intro pins' σ1 Γ1 F1 H1 s1 e s' I' R1 hx
    have I1 : Inv (X.wsh z) pins σ1 H1 s1 := inv_pn' I'
    obtain ⟨a, Cv, H', B, rfl, os, bare, un, hok, air, inB, trk, Γ2, F2, R2, sF2, ⟨C, rfl, hCc, hsub, hth⟩, _⟩ := hx
    show wpAny (model X.prog X.w) X.A (noteFrame (.ref a) X.env) _ _ _
    refine air_look (env := X.env) (outer := X.outer) (I1.ok.frames.trans (congrArg some hst)) hfr (by rw [← hst]; exact air) fun h4 a0 held up4 => ?_
    refine landY (s := { s' with heap := h4 }) held fun h5 fl up5 => ?_
    have I5 : Inv (X.wsh z) pins σ1 H' { s' with heap := h5 } := Inv.landed (t' := s'.toks) I1 hex os bare un hok air.1 fl.1 inB trk (up4.trans up5)
    obtain ⟨ob, hob, hobc⟩ := fl.there
    refine wpAny_handleBy_cons (codeAny_handlers_test (ld_glob (X := (X.wsh z).hand a) (inv_hand I5 a) hg hm ?_ hd)) (by intro q; cases q)
    obtain ⟨bm, N, nm, qn, bs, hdct, sn, sub, ab, col, dd, k0, k1, k2, k3, k5, e1, _, _, _⟩ := excB_obj I5.kIn hCc
    obtain ⟨bm', N', nm', qn', bs', hdct', sn', sub', ab', col', dd', j0, j1, j2, j3, j5, mN', e2, _, _, tl⟩ := excC_obj I5.kIn hC
    refine exc_matches e1 e2 hob hobc (tl.hasType PySem.F.excBase_ValueError.hasBase) ?_
    rw [excK_sub I5.kIn hCc Cd e1, hsub]
    refine codeAny_handlers_suite_as (landY (s := { s' with heap := h5 }) fl fun h6 fl6 up6 => ?_)
    have I6 : Inv (X.wsh z) pins σ1 H' { s' with heap := h6 } := Inv.landed (t' := s'.toks) I1 hex os bare un hok air.1 fl6.1 inB trk ((up4.trans up5).trans up6)
    obtain ⟨oe, vs, T, oT, ts, g1, ⟨g2, _, g4⟩, g3, _⟩ := fl6.2.2.2
    have nB : B.get? a = none := fl6.2.1
    have nH : H' a = none := by
      cases q : H' a with
      | none => rfl
      | some u => obtain ⟨o', e'⟩ := trk a u q; rw [nB] at e'; cases e'
    have nfs : a ∉ frs X.stack := fun hm => by
      obtain ⟨_, o2, e2, nf⟩ := I1.stack.mem hm
      obtain ⟨sl, e3⟩ := un.any e2 (I1.stkFree a hm) (by simp)
      obtain ⟨sl', e4⟩ := ((up4.trans up5).trans up6) a _ e3 nf
      rw [g1] at e4; cases e4
      exact nf _ g3
    have gone : ∀ o, s1.heap.get? a = some o → False := fun o e => by
      obtain ⟨o', e'⟩ := inB a o e nfs
      rw [nB] at e'; cases e'
    have none1 : s1.heap.get? a = none := by
      cases q : s1.heap.get? a with
      | none => rfl
      | some o => exact (gone o q).elim
    have none0 : X.s₀.heap.get? a = none := by
      cases q : X.s₀.heap.get? a with
      | none => rfl
      | some o =>
        obtain ⟨o', e'⟩ := I1.base.there a o q (by show a ∉ X.ex; rw [hex]; simp)
        rw [none1] at e'; cases e'
    have nloc : a ≠ X.env.locals := fun z => nfs (by rw [hst]; unfold frs; rw [List.filterMap_cons, hfr, z]; exact List.mem_cons_self)
    have ncell : ∀ x c, X.env.cells.lookup x = some c → c ≠ a := fun x c e z => by
      obtain ⟨v, o, ho, _⟩ := I1.cell x c e
      rw [z, none1] at ho; cases ho
    have npin : ∀ p ∈ z.pn ++ pins, p.1 ≠ a := fun p hp z => by
      have ho := (I1.pin p hp).1
      rw [z, none1] at ho; cases ho
    have IT : Inv (X.wsh z) pins σ1 (L2.upd H' a (.frz oe (excO a C))) { s' with heap := h6 } := Inv.track I6 nH ⟨g1, ⟨oe, vs, g1, g2, g3, g4⟩, ⟨oe, g1⟩, fun h1 h2 hq1 st => by obtain ⟨o, ws, p1, p2, p3, p4⟩ := hq1; exact ⟨o, ws, st o p1, p2, p3, p4⟩⟩ none0 nloc ncell npin
    have gr2 : Gr F2 H' (L2.upd F2 a (.frz oe (excO a C))) (L2.upd H' a (.frz oe (excO a C))) := Gr.laid R2.g nH
    have IH : Inv ((X.wsh ⟨fun _ _ => False, z.pn⟩).hand a) pins σ1 (L2.upd H' a (.frz oe (excO a C))) { s' with heap := h6 } := inv_hand (X := X.wsh ⟨fun _ _ => False, z.pn⟩) ⟨ok_wsh IT.ok _, IT.os, IT.bare, IT.base, IT.loc, IT.cell, IT.free, IT.freeC, IT.pin, IT.hok, IT.len⟩ a
    have rp : Rep X.K (L2.upd F2 a (.frz oe (excO a C))) (.exc C) (.ref a) := by
      unfold Rep
      exact ⟨a, oe, rfl, upd_same⟩
    refine store_ok (X := (X.wsh ⟨fun _ _ => False, z.pn⟩).hand a) IH hN hi (.inl hl) (show RelV (.ref a) (.ref a) from rfl) (fun s7 I7 => ?_) (.inr hl)
    have R7 := ((R2.grow gr2).set i rp)
    -- behind the suite the name is let go
    have fin : ∀ {σ2 : St} {H2 : Hp} {s2 : Shared} {Q2 : Shared → Prop}, Inv (X.wsh z) pins σ2 H2 s2 → σ2.length = X.N.length → (∀ s3, Inv (X.wsh z) pins (σ2.set i none) H2 s3 → Q2 s3) → wpAny (model X.prog X.w) X.A (do bindName X.env n .none; unbindBehindTheSuite X.env n hp) (fun _ s3 => Q2 s3) z.xe s2 := by
      intro σ2 H2 s2 Q2 I2 hlen hQ
      refine wpAny_bind (wpAny_bindName (store_ok (X := X.wsh z) I2 hN hi (.inl hl) (show RelV .non Value.none from rfl) (fun s3 I3 => ?_) (.inr hl)))
      unfold unbindBehindTheSuite
      refine wpAny_onRaise (unbind_ok (X := X.wsh z) I3 hN hi hl (v := .non) ?_ fun s4 I4 => ?_)
      · rw [List.getElem?_set_self (by rw [hlen]; exact (List.getElem?_eq_some_iff.mp hi).1)]
      · rw [List.set_set] at I4
        exact hQ s4 I4
    have kb := (k.base R.gr).mono R2.gr.f
    have kh : EndR X.K F H0 (L2.upd F2 a (.frz oe (excO a C))) { nx := fun Γ' => D2.nx (Γ'.set i .no), rt := D2.rt, bk := fun Γ' => D2.bk (Γ'.set i .no), ct := fun Γ' => D2.ct (Γ'.set i .no) } { nx := fun σ H => D.nx (σ.set i none) H, rt := D.rt, bk := fun σ H => D.bk (σ.set i none) H, ct := fun σ H => D.ct (σ.set i none) H } :=
      ⟨fun Γ' F' H' σ' R' s h => kb.nx _ _ _ _ (R'.drop i none) ((gr2.f).trans s) h, fun Γ' F' H' σ' R' s h => kb.bk _ _ _ _ (R'.drop i none) ((gr2.f).trans s) h, fun Γ' F' H' σ' R' s h => kb.ct _ _ _ _ (R'.drop i none) ((gr2.f).trans s) h, kb.rt, fun _ _ _ _ _ _ q => q.elim, fun _ _ _ _ _ _ _ _ _ q => q.elim, fun _ _ _ _ _ _ _ _ q => q.elim⟩
    have run := hh a (L2.upd F2 a (.frz oe (excO a C))) ⟨oe, C, upd_same⟩ ⟨fun _ _ => False, z.pn⟩ noX ctx_never pins s7 (σ1.set i (some (.ref a))) (L2.upd H' a (.frz oe (excO a C))) { nx := fun σ H => D.nx (σ.set i none) H, rt := D.rt, bk := fun σ H => D.bk (σ.set i none) H, ct := fun σ H => D.ct (σ.set i none) H } I7
      ⟨_, _, _, R7.base, hth, kh.base R7.gr⟩
    refine wpAny_mono run (fun f s2 q => ?_) fun _ _ q => q.elim
    have q' := sp_unhand I1.ok q
    cases f with
    | next => obtain ⟨σ', H', I2, q⟩ := q'; exact fin I2 I2.len fun s3 I3 => ⟨_, _, I3, q⟩
    | brk => obtain ⟨σ', H', I2, q⟩ := q'; exact fin I2 I2.len fun s3 I3 => ⟨_, _, I3, q⟩
    | cont => obtain ⟨σ', H', I2, q⟩ := q'; exact fin I2 I2.len fun s3 I3 => ⟨_, _, I3, q⟩
    | ret u => obtain ⟨v, σ', H', I2, r, q⟩ := q'; exact fin I2 I2.len fun s3 I3 => ⟨v, _, _, I3, r, q⟩
end

def sp_law0 : Sp2 := fun ds P _ => ∃ ns : List Int, ds = [.lst (ns.map .int)] ∧ ns.length ≤ 63 ∧ P (.bl true)
theorem reps_ints {K : PySem.W.Frag} {F : Hp} : ∀ ns : List Int, Reps K F (ns.map .int) (ns.map V.int)
  | [] => by unfold Reps; rfl
  | n :: ns => reps_cons (by unfold Rep; rfl) (reps_ints ns)
theorem law_start {K : PySem.W.Frag} {H : Hp} {a : Addr} {ns : List Int} (hl : ns.length ≤ 63) (hS : SqL K H a (ns.map V.int)) : spUp K sp_law0 [.ref a] H (fun v _ => v = .bl true) fun _ _ _ => False :=
  ⟨H, [.lst (ns.map .int)], fun d => d = .bl true, fun _ => False, .refl _, reps_one (by unfold Rep; exact ⟨a, _, rfl, hS, reps_ints ns⟩), ⟨ns, rfl, hl, rfl⟩, fun d v F' H' gr r h => by subst h; unfold Rep at r; exact r, fun _ _ h => h.elim⟩
theorem law_none {P : Program} {w : World} {H : Hp} {s : Shared} {e : Value} {s' : Shared} (h : CX1 P w [] H s (fun _ _ _ => False) e s') : False := by
  obtain ⟨_, _, _, _, _, _, _, _, _, _, _, _, h⟩ := h
  exact h
structure Cls where
  HallError : Addr := 0
  NoFraction : Addr := 0
  NoName : Addr := 0
  NoMark : Addr := 0
  Twice : Addr := 0
  Missing : Addr := 0
  NoAnswer : Addr := 0
  Few : Addr := 0
  Apart : Addr := 0
  NoScale : Addr := 0
  Barred : Addr := 0
  Open : Addr := 0
  NoWork : Addr := 0
  NoSitting : Addr := 0
  NoRow : Addr := 0
  Scale : Addr := 0
  Book : Addr := 0
  Sitting : Addr := 0
  Desk : Addr := 0
end L3

namespace L3
open PySem PySem.Spec PyProof.Rows L2

structure ExcG (K : PySem.W.Frag) (C : Addr) : Prop where
  ga : PySem.W.findIn K (.ref C) "__getattribute__" = some (some (.builtin "BaseException.__getattribute__"))
  gn : PySem.W.findIn K (.ref C) "__getattr__" = some none
  cl : PySem.W.findIn K (.ref C) "__class__" = some (some (.builtin "object.__class__"))
  ob : PySem.W.mroIn K C (.type "object") = some true
  be : PySem.W.mroIn K C (.type "BaseException") = some true

def cIsx (K : PySem.W.Frag) (C : Addr) (ta : TE2) : TE2 := fun Γ P E => ta Γ (fun d Γ1 => match d with | .exc C0 => (ExcK K C0 ∧ ExcG K C0) ∧ P (.bl (excSub K C0 C)) Γ1 | _ => False) E
section
open PySem.W PySem.Builtin PySem.Builtin.ObjectAttr PySem.Builtin.Getset_descriptor
variable {prog : Program} {w : World} {A : Around} {E : Value → Shared → Prop} {K : PySem.W.Frag} {h : Heap} {g : Array GenState} {d : Drawn} {t : Nat} {os : OsState} {a C : Addr} {o : Obj}
theorem exc_cls_get {tp : Value} {R : Result → Shared → Prop} (X : K.In h) (G : ExcG K C) (hx : h.get? a = some o) (hc : o.cls = .ref C) (hq : R (.ok (.ret (.ref C))) ⟨h, g, d, t, os⟩) :
    codeAny (model prog w) A (.call (.builtin "getset_descriptor.__get__") ⟨[.builtin "object.__class__", .ref a, tp], []⟩) R ⟨h, g, d, t, os⟩ := by
  have L0 : Looks (model prog w) h (typeOf (.ref a)) (.ref C) := hc ▸ (Looks.ld hx).andThen .now
  have L1 := looks_mroIn (M := model prog w) X G.ob
  refine codeAny_call_builtin KF.slot_gs.plain KF.entry_gs (KF.slot_gs.check _ _ _ _ _ _ _ _ KF.type_class (KF.args_gs _ _ _) ?_)
  unfold Builtin.«getset_descriptor.__get__» descrGet
  rw [dga_obj]
  refine wpAny_bind (wpAny_pure ?_)
  unfold descrGetter descrCheckInstance descrNameAndClass isInstance
  simp only [KF.owner_class]
  repeat lk
  refine ⟨Code.quiet_builtin _ (by decide +kernel), codeAny_builtin KF.entry_class ?_⟩
  unfold Builtin.«object.__class__» shownTypeOf
  repeat lk
  exact hq
theorem exc_cls_entry {tk : Tok} {Q : Fin → Shared → Prop} (X : K.In h) (G : ExcG K C) (hx : h.get? a = some o) (hc : o.cls = .ref C) (hq : Q (.done (.ret (.ref C))) ⟨h, g, d, t, os⟩) :
    wpAny (model prog w) A (Builtin.«object.__getattribute__» ⟨[.ref a, .str "__class__" tk], []⟩) Q E ⟨h, g, d, t, os⟩ := by
  have L0 : Looks (model prog w) h (typeOf (.ref a)) (.ref C) := hc ▸ (Looks.ld hx).andThen .now
  have L1 := looks_findIn (M := model prog w) X G.cl
  have f5 := KF.type_class
  have f6 := F.slot_gs_get.lookup
  have f7 := F.slot_gs_set.lookup
  have hT5 : (⟨h, g, d, t, os⟩ : Shared).TypeIs (.builtin "object.__class__") "getset_descriptor" := KF.type_class
  repeat (any_goals (first | assumption | (with_reducible refine wpAny_loadPart_at hx ?_; rw [hc]) | with_reducible refine L1.at ?_ | wp_step))
  refine exc_cls_get X G hx hc ?_
  repeat (any_goals (first | assumption | wp_step))
theorem exc_cls_check {M : Model} {nameV : Value} {Q : Unit → Shared → Prop} (X : K.In h) (G : ExcG K C) (hx : h.get? a = some o) (hc : o.cls = .ref C) (hq : Q () ⟨h, g, d, t, os⟩) : wpAny M A (checkBuiltinCall "BaseException.__getattribute__" ⟨[.ref a, nameV], []⟩) Q E ⟨h, g, d, t, os⟩ := by
  have hk : builtinKind "BaseException.__getattribute__" = some .slot := by decide +kernel
  have hsp : splitId "BaseException.__getattribute__" = some ("BaseException", "__getattribute__") := by decide +kernel
  have ha := F.args_bexc_ga (.ref a) nameV
  have L1 := looks_mroIn (M := M) X G.be
  simp only [checkBuiltinCall, hk, hsp]
  refine wpAny_bind ?_
  unfold isInstance
  repeat (first | (with_reducible refine wpAny_loadPart_at hx ?_; rw [hc]) | with_reducible refine L1.at ?_ | wp_step)
  exact hq
theorem exc_class {Q : Option Value → Shared → Prop} (X : K.In h) (G : ExcG K C) (hx : h.get? a = some o) (hc : o.cls = .ref C) (hq : Q (some (.ref C)) ⟨h, g, d, t + 1, os⟩) : wpAny (model prog w) A (getAttr? (.ref a) "__class__") Q E ⟨h, g, d, t, os⟩ := by
  have L0 : Looks (model prog w) h (typeOf (.ref a)) (.ref C) := hc ▸ (Looks.ld hx).andThen .now
  have L1 := looks_findIn (M := model prog w) X G.ga
  have L2' := looks_findIn (M := model prog w) X G.gn
  have b3 := PySem.F.excAttr_ValueError.ga.bind (.ref a)
  unfold getAttr? getAttrBy? getAttrBy
  refine wpAny_bind (wpAny_mkText (wpAny_bind (wpAny_attempt (wpAny_holding (wpAny_bind (L0.at (wpAny_bind (L1.at ?_))))))))
  have hx2 : (onTheHeap (Value.ref C) && Value.builtin "BaseException.__getattribute__" == Value.builtin "object.__getattribute__") = false := by
    rw [show (Value.builtin "BaseException.__getattribute__" == Value.builtin "object.__getattribute__") = false by decide +kernel, Bool.and_false]
  simp only [hx2, Bool.false_eq_true, if_false]
  unfold getAttrByItsOwn hookBefore callGetattribute
  simp only [show onTheHeap (Value.ref C) = true from rfl, if_true]
  refine wpAny_bind (L2'.at ?_)
  simp only [Bool.false_and, Bool.false_eq_true, if_false]
  unfold boundAndCalled
  refine wpAny_bind (wpAny_attempt (wpAny_holding (wpAny_bind (wpAny_of_eq b3 ?_))))
  refine wpAny_call (codeAny_call_builtin PySem.F.excAttr_ValueError.ga.plain F.entry_bexc_ga (exc_cls_check X G hx hc (exc_cls_entry X G hx hc ?_)))
  exact handed_on rfl (wpAny_pure hq)
theorem kitx_exc (q : ExcK K C) (G : ExcG K C) : KitX K (.ref a) (.ref C) (fun h => ∃ o, h.get? a = some o ∧ o.cls = .ref C) where
  ty := fun M h _ ⟨o, e, c⟩ => c ▸ (Looks.ld e).andThen .now
  it := fun M h X _ => by
    obtain ⟨bm, N, nm, qn, bs, hdct, sn, sub, ab, col, dd, k0, k1, k2, k3, k5, e1, _⟩ := excB_obj X q
    intro A' Q' E' s' k hq
    unfold isType loadHead
    exact wpAny_bind (wpAny_loadPart (k _ _ e1) (wpAny_pure hq))
  ne := fun h tp dd its n sl X htp => by
    obtain ⟨bm, N, nm, qn, bs, hdct, sn, sub, ab, col, dd, k0, k1, k2, k3, k5, e1, _⟩ := excB_obj X q
    refine Bool.eq_false_iff.mpr fun z => ?_
    have e : C = tp := Value.ref.inj (beq_iff_eq.mp z)
    subst e
    rw [e1] at htp
    unfold excClassObj at htp
    injection htp with htp
    have z2 := congrArg Obj.cls htp
    injection z2 with z2
    exact absurd z2 (by decide)
  ca := fun {prog w A E Q s} X ⟨o, e, c⟩ hq => by
    obtain ⟨h, g, d, t, os⟩ := s
    exact exc_class X G e c hq
def clsB (K : PySem.W.Frag) (C : Addr) : Bool := match K.lookup C with
  | some ⟨.type "type", _, .cls cd, _⟩ => (match cd.mro with | .ref C' :: _ => C' == C | _ => false)
  | _ => false
theorem clsB_look {B : Addr} (hB : clsB K B = true) : ∃ dd cd sl bm, K.lookup B = some ⟨.type "type", dd, .cls cd, sl⟩ ∧ cd.mro = .ref B :: bm := by
  unfold clsB at hB
  split at hB
  · rename_i dd cd sl ho
    split at hB
    · rename_i C' bm hm
      obtain rfl : C' = B := by simpa using hB
      exact ⟨dd, cd, sl, bm, ho, hm⟩
    · cases hB
  · cases hB
theorem clsB_exc {B : Addr} (hB : ExcC K B) : clsB K B = true := by
  unfold ExcC excIn at hB
  split at hB
  · rename_i dd cd sl ho
    split at hB
    · rename_i C' bm k0 k1 k2 k3 n k5 hm hs
      simp only [Bool.and_eq_true, beq_iff_eq] at hB
      obtain ⟨⟨⟨⟨⟨rfl, _⟩, _⟩, _⟩, _⟩, _⟩ := hB
      unfold clsB
      rw [ho]
      simp only [hm]
      exact beq_self_eq_true _
    · cases hB
  · cases hB
theorem clsB_excK {B : Addr} (hB : ExcK K B) : clsB K B = true := by
  unfold ExcK excB at hB
  split at hB
  · rename_i dd cd sl ho
    split at hB
    · rename_i C' bm k0 k1 k2 k3 n k5 hm hs
      simp only [Bool.and_eq_true, beq_iff_eq] at hB
      obtain ⟨⟨⟨rfl, _⟩, _⟩, _⟩ := hB
      unfold clsB
      rw [ho]
      simp only [hm]
      exact beq_self_eq_true _
    · cases hB
  · cases hB
theorem kit_exc {D : Addr} (q : ExcK K C) (qd : clsB K D = true) : kitOne K (.ref C) (.ref D) = some (excSub K C D) := by
  obtain ⟨dd, cd, sl, bm, e1, e2⟩ := clsB_look (clsB_excK q)
  obtain ⟨dd', cd', sl', bm', e3, e4⟩ := clsB_look qd
  have es : excSub K C D = cd.mro.contains (.ref D) := by unfold excSub; rw [e1]
  unfold kitOne
  by_cases h : C = D
  · subst h
    rw [if_pos (by simp), es, e2]
    simp
  · rw [if_neg (by simpa using h)]
    unfold kitCls
    have c1 : clsIn K D = some cd' := by unfold clsIn; rw [e3]
    have c2 : typeIn K (.ref D) = some (.type "type") := by show (K.lookup D).map (fun x => x.cls) = _; rw [e3]; rfl
    have c3 : clsIn K C = some cd := by unfold clsIn; rw [e1]
    simp only [c1, c2, Option.isSome_some, Bool.true_and, beq_self_eq_true, if_true]
    show ((clsIn K C).bind fun cd => if cd.mro.isEmpty = true then none else some (cd.mro.contains (Value.ref D))) = _
    rw [c3, es]
    simp only [Option.bind_some]
    rw [e2]
    simp
end
section
variable {X : Cx} {F0 H0 : Hp} {a : Expr} {pos p pt : Pos} {ta : TE2} {x : Str} {C : Addr}
theorem qe_isx (ha : QE X F0 H0 a ta) (hg : Gl X "isinstance") (hm : X.mg "isinstance" = none) (hgT : Gl X x) (hT : X.mg x = some (.ref C) ∧ clsB X.K C = true) (hd : (x == ("__debug__" : Str)) = false := by decide)
    (he : starEach [a, .Name x pt] X.env = (false, eval a X.env) :: starEach [.Name x pt] X.env := by rfl) (he2 : starEach [.Name x pt] X.env = [(false, eval (.Name x pt) X.env)] := by rfl) : QE X F0 H0 (.Call (.Name "isinstance" p) [a, .Name x pt] [] pos) (cIsx X.K C ta) := fun z E cx => by
  have pT : PE (X.wsh z) (.Name x pt) (tC (.ref C)) := pe_glob (X := X.wsh z) hgT hT.1 rfl hd
  refine peC (pe_callB (X := X.wsh z) (id := "isinstance") (r := fun vs H Q => ∃ (F : Hp) (C0 : Addr) (x : V) (P : Bool → Prop), vs = [x, .ref C] ∧ Same F H ∧ Rep X.K F (.exc C0) x ∧ (ExcK X.K C0 ∧ ExcG X.K C0) ∧ P (excSub X.K C0 C) ∧ ∀ b, P b → Q (.bl b) H) ?_ hg hm boot_isinstance (pa_cons (ha z E cx) (pa_cons pT pa_nil (by rw [he2]; rfl)) he) (by decide) (by decide) he (by rw [he2]; rfl)) fun σ H Q ⟨F, Γ, P, R, h, k⟩ => ?_
  · rintro pins s σ H xs us Q I r ⟨F, C0, y, P, e1, sF, rd, hx, hb, k⟩
    subst e1
    obtain ⟨u, w, rfl, ru, rw'⟩ := vals2 r
    obtain rfl : w = Value.ref C := rw'
    unfold Rep at rd
    obtain ⟨b, ob, rfl, eb⟩ := rd
    cases ru
    obtain ⟨_, ⟨o, vs, g1, g2, _⟩, _⟩ := I.hok b _ (sF _ _ eb)
    exact PySem.W.kia_one (kitx_exc hx.1 hx.2) I.kIn ⟨o, g1, g2⟩ (kit_exc hx.1 hT.2) (fun z => nomatch z) fun tk => ⟨.bl _, H, I.tok tk, rfl, k _ hb⟩
  · refine ⟨F, Γ, _, R, h, fun d Γ1 F1 H1 v R1 s1 r1 h1 => ?_⟩
    cases d with
    | exc C0 => exact ⟨F1, C0, v, fun b => P (.bl b) Γ1, rfl, R1.g, r1, h1.1, h1.2, fun b hp => k _ _ _ _ _ R1 s1 (by unfold Rep; rfl) hp⟩
    | _ => exact False.elim h1
end
end L3

namespace L3
open PySem PySem.Spec PyProof.Rows L2

theorem cf_old {x : Str} : ∀ (names : List (Str × NameKind)) (n : Nat) (acc : List (Str × Addr)), (∀ p ∈ names, p.2 = .cell → p.1 ≠ x) → (cellsFrom n names acc).lookup x = acc.lookup x
  | [], _, _, _ => rfl
  | (y, k) :: r, n, acc, h => by
    unfold cellsFrom
    have hr : ∀ p ∈ r, p.2 = .cell → p.1 ≠ x := fun p hp => h p (List.mem_cons_of_mem _ hp)
    split
    · rename_i hk
      have hy : y ≠ x := h (y, k) List.mem_cons_self (by simpa using hk)
      rw [cf_old r _ _ hr, List.lookup_cons]
      have : (x == y) = false := by rw [beq_eq_false_iff_ne]; exact Ne.symm hy
      rw [this]
    · exact cf_old r _ _ hr
theorem cf_mem {x : Str} {c : Addr} : ∀ (names : List (Str × NameKind)) (h : Heap) (acc : List (Str × Addr)), (x, c) ∈ cellsFrom h.objs.size names acc → (x, c) ∈ acc ∨ (h.objs.size ≤ c ∧ (pushCells h names).IsCell c none ∧ (x, NameKind.cell) ∈ names)
  | [], _, _, m => .inl m
  | (y, k) :: r, h, acc, m => by
    unfold cellsFrom at m
    unfold pushCells
    split at m
    · rename_i hk
      rw [if_pos hk]
      have sz : (h.push { cls := .type "cell", data := .cell none }).objs.size = h.objs.size + 1 := Heap.size_push ..
      rw [← sz] at m
      rcases cf_mem r _ _ m with z | ⟨z1, z2, z3⟩
      · rcases List.mem_cons.mp z with e | z
        · cases e
          have e2 : k = .cell := by simpa using hk
          subst e2
          refine .inr ⟨Nat.le_refl _, ?_, List.mem_cons_self⟩
          exact ⟨_, pushCells_keeps r _ _ _ (Heap.get?_push_size _ rfl), rfl⟩
        · exact .inl z
      · exact .inr ⟨by rw [sz] at z1; omega, z2, List.mem_cons_of_mem _ z3⟩
    · rename_i hk
      rw [if_neg hk]
      rcases cf_mem r h acc m with z | ⟨z1, z2, z3⟩
      · exact .inl z
      · exact .inr ⟨z1, z2, List.mem_cons_of_mem _ z3⟩
theorem cf_apart : ∀ (names : List (Str × NameKind)) (n : Nat) (acc : List (Str × Addr)), (acc.Pairwise fun x y => x.2 ≠ y.2) → (∀ p ∈ acc, p.2 < n) → (cellsFrom n names acc).Pairwise fun x y => x.2 ≠ y.2
  | [], _, _, h, _ => h
  | (y, k) :: r, n, acc, h, hl => by
    unfold cellsFrom
    split
    · refine cf_apart r _ _ (List.pairwise_cons.mpr ⟨fun p hp e => ?_, h⟩) fun p hp => ?_
      · have e' : n = p.2 := e
        exact Nat.lt_irrefl _ (Nat.lt_of_lt_of_eq (hl p hp) e')
      · rcases List.mem_cons.mp hp with rfl | hp
        · exact Nat.lt_succ_self _
        · exact Nat.lt_succ_of_lt (hl p hp)
    · exact cf_apart r n acc h hl
def clOf (env : Env) : List (Str × NameKind) → List (Str × Addr) → List (Str × Addr)
  | [], cs => cs
  | (n, k) :: r, cs => clOf env r (if k == .free then (n, (env.cells.lookup n).getD 0) :: cs else cs)
theorem clos_ok {scope : Scope} {env : Env} (h : ∀ p ∈ scope.names, p.2 = .free → ∃ c, env.cells.lookup p.1 = some c) : closureFor scope env = pure (clOf env scope.names []) := by
  have key : ∀ (names : List (Str × NameKind)) (cs : List (Str × Addr)), (∀ p ∈ names, p.2 = .free → ∃ c, env.cells.lookup p.1 = some c) →
      (forIn names cs fun (x : Str × NameKind) (r : List (Str × Addr)) => (if x.2 == .free then do let a ← cellOf env x.1; pure (ForInStep.yield ((x.1, a) :: r)) else pure (ForInStep.yield r) : Sem _)) = pure (clOf env names cs) := by
    intro names
    induction names with
    | nil => intro cs _; rfl
    | cons p r ih =>
      intro cs hh
      obtain ⟨n, k⟩ := p
      have hr : ∀ p ∈ r, p.2 = .free → ∃ c, env.cells.lookup p.1 = some c := fun p hp => hh p (List.mem_cons_of_mem _ hp)
      rw [List.forIn_cons]
      unfold clOf
      by_cases hk : (k == NameKind.free) = true
      · obtain ⟨c, e⟩ := hh (n, k) List.mem_cons_self (by simpa using hk)
        have e' : cellOf env n = pure c := by unfold cellOf; rw [e]
        simp only [hk, if_true, e', pure_bind, e, Option.getD_some]
        exact ih _ hr
      · have hk' : (k == NameKind.free) = false := by simpa using hk
        simp only [hk', Bool.false_eq_true, if_false, pure_bind]
        exact ih _ hr
  unfold closureFor
  have := key scope.names [] h
  simpa using this
theorem clOf_mem {env : Env} {x : Str} {c : Addr} : ∀ (names : List (Str × NameKind)) (cs : List (Str × Addr)), (∀ p ∈ names, p.2 = .free → ∃ c, env.cells.lookup p.1 = some c) → (x, c) ∈ clOf env names cs → (x, c) ∈ cs ∨ ((x, NameKind.free) ∈ names ∧ env.cells.lookup x = some c)
  | [], _, _, m => .inl m
  | (n, k) :: r, cs, hh, m => by
    unfold clOf at m
    have hr : ∀ p ∈ r, p.2 = .free → ∃ c, env.cells.lookup p.1 = some c := fun p hp => hh p (List.mem_cons_of_mem _ hp)
    rcases clOf_mem r _ hr m with z | ⟨z1, z2⟩
    · split at z
      · rename_i hk
        rcases List.mem_cons.mp z with e | z
        · cases e
          have e2 : k = .free := by simpa using hk
          subst e2
          obtain ⟨c, e⟩ := hh (_, .free) List.mem_cons_self rfl
          refine .inr ⟨List.mem_cons_self, ?_⟩
          have e' : env.cells.lookup x = some c := e
          rw [e']; rfl
        · exact .inl z
      · exact .inl z
    · exact .inr ⟨List.mem_cons_of_mem _ z1, z2⟩
theorem clOf_get {env : Env} {x : Str} {c : Addr} (e : env.cells.lookup x = some c) : ∀ (names : List (Str × NameKind)) (cs : List (Str × Addr)), ((x, NameKind.free) ∈ names ∨ cs.lookup x = some c) → (∀ c', cs.lookup x = some c' → c' = c) → (clOf env names cs).lookup x = some c
  | [], cs, h, _ => by
    rcases h with h | h
    · cases h
    · exact h
  | (n, k) :: r, cs, h, hu => by
    unfold clOf
    by_cases hk : (k == NameKind.free) = true
    · rw [if_pos hk]
      by_cases hn : x = n
      · subst hn
        refine clOf_get e r _ (.inr ?_) fun c' q => ?_
        · rw [List.lookup_cons]; simp [e]
        · rw [List.lookup_cons] at q; simp [e] at q; exact q.symm
      · have hb : (x == n) = false := by rw [beq_eq_false_iff_ne]; exact hn
        refine clOf_get e r _ ?_ fun c' q => ?_
        · rcases h with h | h
          · rcases List.mem_cons.mp h with z | z
            · cases z; exact absurd rfl hn
            · exact .inl z
          · refine .inr ?_
            rw [List.lookup_cons, hb]; exact h
        · rw [List.lookup_cons, hb] at q; exact hu c' q
    · rw [if_neg hk]
      refine clOf_get e r cs ?_ hu
      rcases h with h | h
      · rcases List.mem_cons.mp h with z | z
        · cases z; exact absurd rfl hk
        · exact .inl z
      · exact .inr h
theorem clOf_apart {env : Env} (inj : ∀ x y c, env.cells.lookup x = some c → env.cells.lookup y = some c → x = y) : ∀ (names : List (Str × NameKind)) (cs : List (Str × Addr)), (names.map (·.1)).Nodup → (∀ p ∈ names, p.2 = .free → ∃ c, env.cells.lookup p.1 = some c) →
    (cs.Pairwise fun x y => x.2 ≠ y.2) → (∀ p ∈ cs, env.cells.lookup p.1 = some p.2 ∧ p.1 ∉ names.map (·.1)) → (clOf env names cs).Pairwise fun x y => x.2 ≠ y.2
  | [], _, _, _, h, _ => h
  | (n, k) :: r, cs, nd, hh, h, hc => by
    unfold clOf
    rw [List.map_cons, List.nodup_cons] at nd
    have hr : ∀ p ∈ r, p.2 = .free → ∃ c, env.cells.lookup p.1 = some c := fun p hp => hh p (List.mem_cons_of_mem _ hp)
    have hc' : ∀ p ∈ cs, env.cells.lookup p.1 = some p.2 ∧ p.1 ∉ r.map (·.1) := fun p hp => ⟨(hc p hp).1, fun z => (hc p hp).2 (by rw [List.map_cons]; exact List.mem_cons_of_mem _ z)⟩
    by_cases hk : (k == NameKind.free) = true
    · rw [if_pos hk]
      obtain ⟨c, e⟩ := hh (n, k) List.mem_cons_self (by simpa using hk)
      have e' : env.cells.lookup n = some c := e
      rw [e']
      refine clOf_apart inj r _ nd.2 hr (List.pairwise_cons.mpr ⟨fun p hp z => ?_, h⟩) fun p hp => ?_
      · have z' : c = p.2 := z
        have q := (hc p hp).1
        rw [← z'] at q
        have := inj _ _ _ e' q
        exact (hc p hp).2 (by rw [List.map_cons, ← this]; exact List.mem_cons_self)
      · rcases List.mem_cons.mp hp with rfl | hp
        · exact ⟨e', nd.1⟩
        · exact hc' p hp
    · rw [if_neg hk]
      exact clOf_apart inj r cs nd.2 hr h hc'
theorem relabel_look {scope : Scope} {env : Env} {x : Str} : ∀ (names : List (Str × NameKind)) {k : NameKind}, names.lookup x = some k → (names.map fun (n, k) => if (k == NameKind.free && env.scope.kind == .function && env.kindOf n == some .cell) then (n, NameKind.cell) else (n, k)).lookup x = some k ∨
      (k = .free ∧ (names.map fun (n, k) => if (k == NameKind.free && env.scope.kind == .function && env.kindOf n == some .cell) then (n, NameKind.cell) else (n, k)).lookup x = some .cell)
  | [], _, h => by simp at h
  | (n, k0) :: r, k, h => by
    have ih := @relabel_look scope env x r k
    show List.lookup x ((if (k0 == NameKind.free && env.scope.kind == .function && env.kindOf n == some .cell) = true then (n, NameKind.cell) else (n, k0)) :: _) = _ ∨ (_ ∧ List.lookup x ((if (k0 == NameKind.free && env.scope.kind == .function && env.kindOf n == some .cell) = true then (n, NameKind.cell) else (n, k0)) :: _) = _)
    cases hx : x == n with
    | true =>
      simp only [List.lookup_cons, hx] at h
      cases h
      by_cases hc : (k0 == NameKind.free && env.scope.kind == .function && env.kindOf n == some .cell) = true
      · rw [if_pos hc]
        simp only [Bool.and_eq_true] at hc
        exact .inr ⟨by simpa using hc.1.1, by simp only [List.lookup_cons, hx]⟩
      · rw [if_neg hc]
        exact .inl (by simp only [List.lookup_cons, hx])
    | false =>
      simp only [List.lookup_cons, hx] at h
      by_cases hc : (k0 == NameKind.free && env.scope.kind == .function && env.kindOf n == some .cell) = true
      · rw [if_pos hc]; simp only [List.lookup_cons, hx]; exact ih h
      · rw [if_neg hc]; simp only [List.lookup_cons, hx]; exact ih h
end L3

namespace L3
open PySem PySem.Spec PyProof.Rows L2

def blkEnv (scope : Scope) (C : Addr) (env : Env) : Env :=
  { scope := relabel scope env, locals := C, globals := env.globals, cells := cellsFrom (C + 1) scope.names (clOf env scope.names []), qual := env.qual, func := none, code := env.code, frame := env.frame, builtins := env.builtins }
def blk (X : Cx) (scope : Scope) (N : List Str) (C : Addr) (s₀ : Shared) (H₀ : Hp) (fp : List Addr) : Cx :=
  { X with env := blkEnv scope C X.env, N := N, s₀ := s₀, H₀ := H₀, outer := X.stack, stack := X.stack, ex := fp, fn := fun x => scope.names.lookup x == some .cell, pn := [], xe := fun _ _ => False }
def mkσ (own : Nat) (caps : List Nat) (σ : St) : St := List.replicate own none ++ caps.map fun j => (σ[j]?).join
structure CpScope (N : List Str) (sc : Scope) (own : List Str) (caps : List Nat) (env : Env) (N' : List Str) : Prop where
  kind : sc.kind = .function
  nd : N'.Nodup
  snd : (sc.names.map (·.1)).Nodup
  free : ∀ p ∈ sc.names, p.2 = .free → env.kindOf p.1 = some .cell ∨ env.kindOf p.1 = some .free
  names : N' = own ++ caps.map fun j => N.getD j ""
  caps : ∀ j ∈ caps, j < N.length ∧ sc.names.lookup (N.getD j "") = some .free

theorem new_block {M : Model} {A : Around} {E : Value → Shared → Prop} {s : Shared} {scope : Scope} {g : Addr} {cl : List (Str × Addr)} {q : Str} {env : Env} {Q : Env → Shared → Prop} 
    (hQ : Q (newEnv scope s.heap.objs.size g (cellsFrom (s.heap.objs.size + 1) scope.names cl) q none .none (some env) builtinsNs) { s with heap := pushCells (s.heap.push { cls := .type "dict", data := .dict #[] }) scope.names }) :
    wpAny M A (newFunctionEnv scope g cl [] q none .none (some env)) Q E s := by
  simp only [newFunctionEnv, Option.isSome_some, if_true]
  refine wpAny_bind (wpAny_alloc ?_)
  refine wpAny_bind (wpAny_layCells _ (fun name kind cells => by cases hkc : kind == NameKind.cell <;> simp [hkc]) _ _ _ _ ?_)
  rw [show ({ s with heap := s.heap.push { cls := .type "dict", data := .dict #[] } } : Shared).heap.objs.size = s.heap.objs.size + 1 from Heap.size_push ..]
  simp only [List.forIn_nil]
  exact wpAny_bind (wpAny_pure (wpAny_pure hQ))

section
variable {X : Cx} {pins : List (Addr × Obj)} {σ : St} {H : Hp} {s : Shared} {sc : Scope} {own : List Str} {caps : List Nat} {N' : List Str} {fp : List Addr}
theorem free_has (I : Inv X pins σ H s) (S : CpScope X.N sc own caps X.env N') : ∀ p ∈ sc.names, p.2 = .free → ∃ c, X.env.cells.lookup p.1 = some c := fun p hp hk => I.ok.has _ (S.free p hp hk)
theorem blk_cells (I : Inv X pins σ H s) (S : CpScope X.N sc own caps X.env N') {x : Str} {c : Addr} (e : (blkEnv sc s.heap.objs.size X.env).cells.lookup x = some c) :
    (X.env.cells.lookup x = some c ∧ c < s.heap.objs.size ∧ sc.names.lookup x ≠ some .cell) ∨ (s.heap.objs.size + 1 ≤ c ∧ (pushCells (s.heap.push { cls := .type "dict", data := .dict #[] }) sc.names).IsCell c none) := by
  have m := mem_of_lookup e
  have sz : (s.heap.push { cls := .type "dict", data := .dict #[] }).objs.size = s.heap.objs.size + 1 := Heap.size_push ..
  have m' : (x, c) ∈ cellsFrom (s.heap.push { cls := .type "dict", data := .dict #[] }).objs.size sc.names (clOf X.env sc.names []) := by rw [sz]; exact m
  rcases cf_mem sc.names _ _ m' with z | ⟨z1, z2, z3⟩
  · rcases clOf_mem sc.names [] (free_has I S) z with z | ⟨z1, z2⟩
    · cases z
    · obtain ⟨v, hc⟩ := I.cell x c z2
      refine .inl ⟨z2, hc.lt, fun q => ?_⟩
      have q' := mem_of_lookup q
      have := S.snd
      rw [List.Nodup, List.pairwise_map] at this
      have d : ∀ (l : List (Str × NameKind)), (l.Pairwise fun a b => a.1 ≠ b.1) → (x, NameKind.free) ∈ l → (x, NameKind.cell) ∈ l → False := by
        intro l
        induction l with
        | nil => intro _ h; cases h
        | cons a r ih =>
          intro hp h1 h2
          obtain ⟨p1, p2⟩ := List.pairwise_cons.mp hp
          rcases List.mem_cons.mp h1 with e1 | h1 <;> rcases List.mem_cons.mp h2 with e2 | h2
          · rw [← e1] at e2; cases e2
          · exact p1 _ h2 (by rw [← e1])
          · exact p1 _ h1 (by rw [← e2])
          · exact ih p2 h1 h2
      exact d _ this z1 q'
  · exact .inr ⟨by rw [sz] at z1; exact z1, z2⟩
theorem blk_cap (I : Inv X pins σ H s) (S : CpScope X.N sc own caps X.env N') {x : Str} {c : Addr} (hk : sc.names.lookup x = some .free) (e : X.env.cells.lookup x = some c) : (blkEnv sc s.heap.objs.size X.env).cells.lookup x = some c := by
  show (cellsFrom _ sc.names (clOf X.env sc.names [])).lookup x = some c
  rw [cf_old]
  · exact clOf_get e _ _ (.inl (mem_of_lookup hk)) fun c' q => by cases q
  · intro p hp hc z
    have q := mem_of_lookup hk
    have := S.snd
    rw [List.Nodup, List.pairwise_map] at this
    have d : ∀ (l : List (Str × NameKind)), (l.Pairwise fun a b => a.1 ≠ b.1) → (x, NameKind.free) ∈ l → p ∈ l → False := by
      intro l
      induction l with
      | nil => intro _ h; cases h
      | cons a r ih =>
        intro hpw h1 h2
        obtain ⟨p1, p2⟩ := List.pairwise_cons.mp hpw
        rcases List.mem_cons.mp h1 with e1 | h1 <;> rcases List.mem_cons.mp h2 with e2 | h2
        · rw [← e1] at e2; subst e2; cases hc
        · exact p1 _ h2 (by rw [← e1]; exact z.symm)
        · exact p1 _ h1 (by rw [← e2]; exact z)
        · exact ih p2 h1 h2
    exact d _ this q hp
theorem blk_look (I : Inv X pins σ H s) (S : CpScope X.N sc own caps X.env N') {h' : Heap} (keepc : ∀ x c v, X.env.cells.lookup x = some c → s.heap.IsCell c v → h'.IsCell c v) {m' : Str → Option Value} (i : Nat) (x : Str) (v : V) (h1 : N'[i]? = some x) (h2 : (mkσ own.length caps σ)[i]? = some (some v)) :
    ∃ u, RelV v u ∧ Look (blkEnv sc s.heap.objs.size X.env) h' m' x u := by
  have h2' : (mkσ own.length caps σ)[i]? = some (some v) := h2
  have h1' : N'[i]? = some x := h1
  unfold mkσ at h2'
  rw [S.names] at h1'
  by_cases hi : i < own.length
  · rw [List.getElem?_append_left (by simpa using hi), List.getElem?_replicate] at h2'
    split at h2' <;> cases h2'
  · rw [List.getElem?_append_right (by simpa using hi), List.getElem?_map, List.length_replicate] at h2'
    rw [List.getElem?_append_right (by omega), List.getElem?_map] at h1'
    cases hj : caps[i - own.length]? with
    | none => rw [hj] at h1'; cases h1'
    | some j =>
      rw [hj] at h1' h2'
      obtain ⟨j1, j2⟩ := S.caps j (List.mem_of_getElem? hj)
      have hx : X.N.getD j "" = x := by simpa using h1'
      have hσ : σ[j]? = some (some v) := by
        have : (σ[j]?).join = some v := by simpa using h2'
        cases q : σ[j]? with
        | none => rw [q] at this; cases this
        | some o => rw [q] at this; have : o = some v := this; rw [this]
      rw [hx] at j2
      have hN : X.N[j]? = some x := by
        rw [List.getD_eq_getElem?_getD, List.getElem?_eq_getElem j1] at hx
        rw [List.getElem?_eq_getElem j1]
        simpa using hx
      obtain ⟨m, hn, hloc⟩ := I.loc
      have kx := S.free (x, .free) (mem_of_lookup j2) rfl
      have vis : Vis X.env.scope x := by
        rcases kx with k | k
        · exact .inr (.inl k)
        · exact .inr (.inr k)
      obtain ⟨u, ru, l⟩ := hloc j x v hN hσ vis
      refine ⟨u, ru, .inr ⟨?_, ?_⟩⟩
      · rcases relabel_look (scope := sc) (env := X.env) sc.names j2 with h | ⟨_, h⟩
        · exact .inr h
        · exact .inl h
      · rcases l with ⟨k, _⟩ | ⟨_, c, ec, hc⟩
        · have k' : X.env.kindOf x = some .local := k
          have kx' : X.env.kindOf x = some .cell ∨ X.env.kindOf x = some .free := kx
          rw [k'] at kx'
          rcases kx' with z | z <;> cases z
        · exact ⟨c, blk_cap I S j2 ec, keepc x c _ ec hc⟩
theorem inv_block (I : Inv X pins σ H s) (S : CpScope X.N sc own caps X.env N') (hf : ∀ b ∈ fp, FpOk X pins H b) (hl : ∀ b ∈ fp, b < s.heap.objs.size) :
    Inv (blk X sc N' s.heap.objs.size s H fp) [] (mkσ own.length caps σ) H { s with heap := pushCells (s.heap.push { cls := .type "dict", data := .dict #[] }) sc.names } := by
  have keep : ∀ b o, s.heap.get? b = some o → (pushCells (s.heap.push { cls := .type "dict", data := .dict #[] }) sc.names).get? b = some o := fun b o e => pushCells_keeps _ _ b o (Heap.get?_push_of_some _ e)
  have ok := I.ok
  have inj : ∀ x y c, (blkEnv sc s.heap.objs.size X.env).cells.lookup x = some c → (blkEnv sc s.heap.objs.size X.env).cells.lookup y = some c → x = y := fun x y c e1 e2 => by
    refine name_of_addr (cs := (blkEnv sc s.heap.objs.size X.env).cells) ?_ (mem_of_lookup e1) (mem_of_lookup e2)
    refine cf_apart _ _ _ (clOf_apart ok.inj _ _ S.snd (free_has I S) List.Pairwise.nil (fun p hp => by cases hp)) fun p hp => ?_
    rcases clOf_mem (x := p.1) (c := p.2) sc.names [] (free_has I S) hp with z | ⟨_, z⟩
    · cases z
    · obtain ⟨v, hc⟩ := I.cell _ _ z
      exact Nat.lt_succ_of_lt hc.lt
  have frC : ∀ b, s.heap.objs.size ≤ b → H b = none := fun b hb => I.hok.fresh hb
  have kfun : (blkEnv sc s.heap.objs.size X.env).scope.kind = .function := S.kind
  refine ⟨⟨ok.mod, kfun, ok.glob, ok.blt, Nat.le_refl _, inj, fun x hx => ?_, fun x c hfn e => ?_, ok.hd, ok.frames, .inl rfl, fun b hb => ⟨Nat.ne_of_lt (hl b hb), fun x c e z => ?_⟩, I.bs, Nat.le_trans ok.bsz I.sz, fun b o e hb => ?_, fun b hb z => ?_, I.stack, I.stkFree⟩,
    rfl, I.bare, Un.kept keep, ⟨_, (Heap.Ns.new s.heap (.type "dict")).keeps (pushCells_keeps _ _), fun i x v h1 h2 h3 => ?_⟩, fun x c e => ?_, frC _ (Nat.le_refl _), fun x c e => ?_, fun p hp => absurd (show p ∈ ([] : List (Addr × Obj)) from hp) (by simp), I.hok.kept keep, ?_⟩
  · -- has
    have hx' : (relabel sc X.env).names.lookup x = some .cell ∨ (relabel sc X.env).names.lookup x = some .free := hx
    have : ∃ k, sc.names.lookup x = some k := by
      have key : ∀ (l : List (Str × NameKind)) (k' : NameKind), (l.map fun (n, k) => if (k == NameKind.free && X.env.scope.kind == .function && X.env.kindOf n == some .cell) then (n, NameKind.cell) else (n, k)).lookup x = some k' → ∃ k, l.lookup x = some k := by
        intro l
        induction l with
        | nil => intro k' h; simp at h
        | cons a r ih =>
          intro k' h
          obtain ⟨n, k0⟩ := a
          cases hb : x == n with
          | true => exact ⟨k0, by simp [List.lookup_cons, hb]⟩
          | false =>
            have h2 : List.lookup x ((if (k0 == NameKind.free && X.env.scope.kind == .function && X.env.kindOf n == some .cell) = true then (n, NameKind.cell) else (n, k0)) :: (r.map _)) = some k' := h
            obtain ⟨k, hk⟩ := ih k' (by
              split at h2 <;> (simp only [List.lookup_cons, hb] at h2; exact h2))
            exact ⟨k, by simp only [List.lookup_cons, hb]; exact hk⟩
      rcases hx' with h | h
      · exact key _ _ h
      · exact key _ _ h
    obtain ⟨k, hk⟩ := this
    rcases relabel_look (scope := sc) (env := X.env) sc.names hk with h | ⟨h1, h2⟩
    · have hkk : k = .cell ∨ k = .free := by
        have h' : (relabel sc X.env).names.lookup x = some k := h
        rcases hx' with z | z <;> rw [z] at h' <;> cases h' <;> simp
      rcases hkk with rfl | rfl
      · exact Option.isSome_iff_exists.mp (PySem.W.cellsFrom_some sc.names _ _ (.inl hk))
      · obtain ⟨c, e⟩ := ok.has x (S.free (x, .free) (mem_of_lookup hk) rfl)
        exact ⟨c, blk_cap I S hk e⟩
    · subst h1
      obtain ⟨c, e⟩ := ok.has x (S.free (x, .free) (mem_of_lookup hk) rfl)
      exact ⟨c, blk_cap I S hk e⟩
  · -- cab
    have hfn' : sc.names.lookup x = some .cell := by
      have : (sc.names.lookup x == some NameKind.cell) = true := hfn
      simpa using this
    rcases blk_cells I S e with ⟨_, _, z⟩ | ⟨z, _⟩
    · exact absurd hfn' z
    · show s.heap.objs.size ≤ c
      exact Nat.le_of_succ_le z
  · rcases blk_cells I S e with ⟨z1, _, _⟩ | ⟨z1, _⟩
    · exact (hf b hb).2.2.2.2.1 x c z1 z
    · have := hl b hb
      rw [← z] at this
      exact Nat.lt_irrefl _ (Nat.lt_of_lt_of_le this (Nat.le_of_succ_le z1))
  · have q := (hf b hb).2.2.2.1
    rcases q with q | q
    · exact ok.noex b o e q
    · have q2 : b < X.base.objs.size := Heap.lt_size e
      exact Nat.lt_irrefl _ (Nat.lt_of_lt_of_le q2 (Nat.le_trans ok.bsz q))
  · rcases List.mem_cons.mp (I.stkSub b z) with z | z
    · exact (hf b hb).2.1 z
    · exact (hf b hb).2.2.1 z
  · exact blk_look I S (fun x c v _ hc => hc.keeps keep) i x v h1 h2
  · rcases blk_cells I S e with ⟨z1, _, _⟩ | ⟨_, z⟩
    · obtain ⟨v, hc⟩ := I.cell x c z1
      exact ⟨v, hc.keeps keep⟩
    · exact ⟨_, z⟩
  · rcases blk_cells I S e with ⟨z1, _, _⟩ | ⟨z, _⟩
    · exact I.freeC x c z1
    · exact frC c (Nat.le_of_succ_le z)
  · show (mkσ own.length caps σ).length = N'.length
    rw [S.names]; unfold mkσ; simp
theorem inv_again {pins' : List (Addr × Obj)} {σ5 : St} {H5 : Hp} {s5 : Shared} (I : Inv X pins σ H s) (S : CpScope X.N sc own caps X.env N') (hf : ∀ b ∈ fp, FpOk X pins H b) (B : Inv (blk X sc N' s.heap.objs.size s H fp) pins' σ5 H5 s5) :
    Inv (blk X sc N' s.heap.objs.size s H fp) pins' (mkσ own.length caps σ) H5 s5 := by
  obtain ⟨m, hn, _⟩ := B.loc
  have kc : ∀ x c v, X.env.cells.lookup x = some c → s.heap.IsCell c v → s5.heap.IsCell c v := fun x c v e ⟨o, ho, hd⟩ => by
    have nx : c ∉ fp := fun z => (hf c z).2.2.2.2.1 x c e rfl
    by_cases hc : c ∈ frs X.stack
    · obtain ⟨sl, q⟩ := B.base.slot c o ho (I.freeC x c e) hc nx
      exact ⟨_, q, hd⟩
    · exact ⟨o, B.base.keep c o ho (I.freeC x c e) hc nx, hd⟩
  exact ⟨B.ok, B.os, B.bare, B.base, ⟨m, hn, fun i x v h1 h2 h3 => blk_look I S kc i x v h1 h2⟩, B.cell, B.free, B.freeC, B.pin, B.hok, by show (mkσ own.length caps σ).length = N'.length; rw [S.names]; unfold mkσ; simp⟩
end
end L3

namespace L3
open PySem PySem.Spec PyProof.Rows L2

abbrev testsOf (ifs : List Expr) (env : Env) : Sem Bool := forIn ifs true fun c r => if r = true then do let ok ← isTrue c env (eval c env); pure (ForInStep.yield ok) else pure (ForInStep.yield r)
section
variable {prog : Program} {w : World} {A : Around} {R : Result → Shared → Prop} {s : Shared}
theorem comp_loop {elt target iter : Expr} {ifs : List Expr} {scope : Scope} {pos : Pos} {it acc : Value} {env : Env} (I : Nat → Shared → Prop)
    (turn : ∀ n s, I n s → wpAny (model prog w) A (pyNext it) (fun r s₁ => match r with
      | none => R (.ok .next) s₁
      | some v => wpAny (model prog w) A (letOwnedTupleGo target it v) (fun _ s₁' => wpAny (model prog w) A (assign target env v) (fun _ s₂ =>
          wpAny (model prog w) A (testsOf ifs env) (fun ok s₃ =>
            if ok = true then wpAny (model prog w) A (eval elt env) (fun x s₄ =>
              wpAny (model prog w) A (call (.builtin "list.append") [acc, x]) (fun _ s₅ => ∃ m, m < n ∧ I m s₅) (fun _ _ => False) s₄) (fun _ _ => False) s₃
            else ∃ m, m < n ∧ I m s₃) (fun _ _ => False) s₂) (fun _ _ => False) s₁') (fun _ _ => False) s₁) (fun _ _ => False) s)
    (n : Nat) (h : I n s) :
    codeAny (model prog w) A (.compLoop (.ListComp elt [⟨target, iter, ifs, 0⟩] scope pos) 0 it acc env) R s := by
  refine codeAny_loop rfl I (fun n s hI => ?_) n h
  show wpAny _ A ((compTurn (.ListComp elt [⟨target, iter, ifs, 0⟩] scope pos) 0 it acc env).onRaise (fun x => do noteFrame x env; theTreesLotGoes x)) _ _ s
  refine wpAny_noted ?_
  rw [compTurn_list]
  refine wpAny_bind (wpAny_standAt (wpAny_bind (wpAny_mono (turn n s hI) (fun r s₁ h₁ => ?_) fun _ _ h' => h'.elim)))
  cases r with
  | none => exact wpAny_pure h₁
  | some v =>
    refine wpAny_bind (wpAny_mono h₁ (fun _ s₁' h₁' => ?_) fun _ _ h' => h'.elim)
    refine wpAny_bind (wpAny_mono h₁' (fun _ s₂ h₂ => wpAny_bind (wpAny_mono h₂ (fun ok s₃ h₃ => ?_) fun _ _ h' => h'.elim)) fun _ _ h' => h'.elim)
    cases ok with
    | false => exact wpAny_pure ⟨rfl, h₃⟩
    | true =>
      exact wpAny_bind (wpAny_bind (wpAny_mono h₃ (fun x s₄ h₄ => wpAny_bind (wpAny_mono h₄ (fun _ s₅ h₅ => wpAny_pure (wpAny_pure ⟨rfl, h₅⟩)) fun _ _ h' => h'.elim)) fun _ _ h' => h'.elim))
end

def PTs (X : Cx) (ifs : List Expr) (t : TT) : Prop :=
  ∀ (pins : List (Addr × Obj)) (s : Shared) (σ : St) (H : Hp) (Q : Bool → Hp → Prop), Inv X pins σ H s → t σ H Q → wpAny (model X.prog X.w) X.A (testsOf ifs X.env) (TP X pins σ Q) X.xe s
theorem pts_nil {X : Cx} : PTs X [] (fun _ H Q => Q true H) := fun pins s σ H Q I h => wpAny_tests_nil ⟨H, I, h⟩
theorem pts_one {X : Cx} {c : Expr} {t : TT} (h : PT X c t) : PTs X [c] t := fun pins s σ H Q I q => wpAny_tests_one (h pins s σ H Q I q)

structure TurnG (P : Program) (w : World) (K : PySem.W.Frag) (tg : Expr) (J : It) (fp : List Addr) (it : Addr) (tn : Nat → Heap → Prop) (cm : Cx → Prop) : Prop where
  mem : it ∈ fp
  obj : ∀ i h, tn i h → ∀ b ∈ fp, ∃ o, h.get? b = some o ∧ ∀ v, o.data ≠ .cell v
  keep : ∀ i h h', tn i h → (∀ b ∈ fp, ∀ o, h.get? b = some o → h'.get? b = some o) → tn i h'
  item : ∀ (X : Cx), X.prog = P → X.w = w → X.K = K → cm X → ∀ (i : Nat) (pins : List (Addr × Obj)) (s : Shared) (σ : St) (H : Hp) (E : Value → Shared → Prop), Inv X pins σ H s → (∀ b ∈ fp, FpOk X pins H b) → tn i s.heap → J.go i H →
    wpAny (model P w) X.A (pyNext (.ref it)) (fun r s1 => ∃ u, r = some u ∧
      wpAny (model P w) X.A (letOwnedTupleGo tg (.ref it) u) (fun _ s2 => ∃ x H', Inv X pins σ H' s2 ∧ RelV x u ∧ J.yld i H x H' ∧ tn (i + 1) s2.heap ∧ ∀ b ∈ fp, H' b = none) E s1) E s
  done : ∀ (X : Cx), X.prog = P → X.w = w → X.K = K → cm X → ∀ (i : Nat) (pins : List (Addr × Obj)) (s : Shared) (σ : St) (H : Hp) (E : Value → Shared → Prop), Inv X pins σ H s → (∀ b ∈ fp, FpOk X pins H b) → tn i s.heap → J.stop i H →
    wpAny (model P w) X.A (pyNext (.ref it)) (fun r s1 => r = none ∧ Inv X pins σ H s1) E s
  self : ∀ (A : Around) (i : Nat) (s : Shared) (Q : Value → Shared → Prop) (E : Value → Shared → Prop), tn i s.heap → Q (.ref it) s → wpAny (model P w) A (pyIter (.ref it)) Q E s
def PIEg (X : Cx) (pins : List (Addr × Obj)) (σ : St) (tg : Expr) (R : It → Hp → Prop) (itv : Value) (s2 : Shared) : Prop :=
  ∃ (it : Addr) (fp : List Addr) (tn : Nat → Heap → Prop) (J : It) (H' : Hp) (cm : Cx → Prop), itv = .ref it ∧ Inv X pins σ H' s2 ∧ TurnG X.prog X.w X.K tg J fp it tn cm ∧ tn 0 s2.heap ∧ (∀ b ∈ fp, FpOk X pins H' b) ∧ R J H' ∧
    ∀ Y : Cx, Y.A = X.A → Y.calm = X.calm → (∀ b o u, H' b = some (.frz o u) → Y.H₀ b = some (.frz o u)) → cm Y
def PIg (X : Cx) (tg iter : Expr) (wi : TI) : Prop :=
  ∀ (pins : List (Addr × Obj)) (s : Shared) (σ : St) (H : Hp) (R : It → Hp → Prop), Inv X pins σ H s → wi σ H R →
    wpAny (model X.prog X.w) X.A (eval iter X.env) (fun v s1 => wpAny (model X.prog X.w) X.A (pyIter v) (PIEg X pins σ tg R) X.xe s1) X.xe s
theorem pig {X : Cx} {tg iter : Expr} {wi : TI} (hc : X.calm = true) (hi : PI X tg iter wi) : PIg X tg iter wi := fun pins s σ H R I h =>
  thn (hi pins s σ H R I h) fun v s1 h1 => thn h1 fun itv s2 hq1 => by obtain ⟨it, fp, tn, J, H', e, I', T, st, f, r⟩ := hq1; exact ⟨it, fp, tn, J, H', fun Y => Y.calm = true, e, I', ⟨T.mem, T.obj, T.keep, T.item, T.done, T.self⟩, st, f, r, fun Y _ q _ => q.trans hc⟩

def CompW (acc : Addr) (J : It) (σ' : St) (g : TG) (tc : TT) (te : TE) (Q : V → Hp → Prop) (H1 : Hp) : Prop :=
  ∃ W : Nat → Nat → List V → Hp → Prop, (∃ m, W 0 m [] H1) ∧ ∀ i m vs H, W i m vs H → H acc = some (.lst vs) ∧ vs.length < sizeLine + 1 ∧
    ((J.stop i H ∧ Q (.ref acc) H) ∨ (J.go i H ∧ vs.length < sizeLine ∧ ∀ x H', J.yld i H x H' → g x σ' H' fun σ2 H2 => tc σ2 H2 fun b H3 =>
      if b = true then te σ2 H3 fun v H4 => H4 acc = some (.lst vs) ∧ ∃ m', m' < m ∧ W (i + 1) m' (vs ++ [v]) (upd H4 acc (.lst (vs ++ [v])))
      else ∃ m', m' < m ∧ W (i + 1) m' vs H3))
def tComp (own : Nat) (caps : List Nat) (wi : TI) (g : TG) (tc : TT) (te : TE) : TE := fun σ H Q => wi σ H fun J H1 => ∀ acc, H1 acc = none → CompW acc J (mkσ own caps σ) g tc te Q (upd H1 acc (.lst []))

section
variable {X : Cx} {sc : Scope} {own : List Str} {caps : List Nat} {N' : List Str} {elt tg iter : Expr} {ifs : List Expr} {pos : Pos} {wi : TI} {g : TG} {tc : TT} {te : TE}
theorem comp_core (S : CpScope X.N sc own caps X.env N') (hi : PIg X tg iter wi)
    (hg : ∀ C s₀ H₀ fp, PG (blk X sc N' C s₀ H₀ fp) tg g) (ht : ∀ C s₀ H₀ fp, PTs (blk X sc N' C s₀ H₀ fp) ifs tc) (he : ∀ C s₀ H₀ fp, PE (blk X sc N' C s₀ H₀ fp) elt te)
    {e : Expr} (ee : e = .ListComp elt [⟨tg, iter, ifs, 0⟩] sc pos) (hs : ∀ x, foldedSetIterable iter X.env x = pure x)
    {use : Option (Value → Sem Unit)} {ps : Pos} {Qv : Value → Shared → Prop} {pins : List (Addr × Obj)} {s : Shared} {σ : St} {H : Hp} {Q : V → Hp → Prop} (I : Inv X pins σ H s) (h : tComp own.length caps wi g tc te σ H Q)
    (fin : ∀ acc C H' s5, Inv X pins σ H' s5 → Q (.ref acc) H' → (∃ m, s5.heap.Ns C m) → H' C = none → C ≠ X.env.locals → X.s₀.heap.objs.size ≤ C → (∀ x c, X.env.cells.lookup x = some c → c ≠ C) → (∀ p ∈ X.pn ++ pins, p.1 ≠ C) → C ∉ X.fs →
      compPost (model X.prog X.w) X.A X.xe use Qv (.ref acc) C (.ok .next) s5) :
    wpAny (model X.prog X.w) X.A (comprehension e sc X.env ps (newList []) false (eval iter X.env) use) Qv X.xe s := by
  subst ee
  refine wpAny_comprehension_free (g := ⟨tg, iter, ifs, 0⟩) (gs := []) (cl := clOf X.env sc.names []) rfl hs (clos_ok (free_has I S)) S.kind ?_ (thn (hi pins s σ H _ I h) fun v s1 h1 => thn h1 fun itv s2 h2 => ?_)
  · intro p hp hk
    have nd := S.snd
    rw [List.Nodup, List.pairwise_map] at nd
    have d : ∀ (l : List (Str × NameKind)), (l.Pairwise fun a b => a.1 ≠ b.1) → p ∈ l → l.lookup p.1 = some .local := by
      intro l
      induction l with
      | nil => intro _ h; cases h
      | cons a r ih =>
        intro hpw h1
        obtain ⟨p1, p2⟩ := List.pairwise_cons.mp hpw
        rcases List.mem_cons.mp h1 with e1 | h1
        · subst e1
          rw [List.lookup_cons]; simp [hk]
        · have hb : (p.1 == a.1) = false := by rw [beq_eq_false_iff_ne]; exact Ne.symm (p1 p h1)
          rw [List.lookup_cons, hb]; exact ih p2 h1
    exact d _ nd hp
  obtain ⟨it, fp, tn, J, H2, cm, rfl, I2, T, st2, f2, R2, hcm⟩ := h2
  have hp0 := I2.fresh
  refine wpAny_newObj_type ?_
  have I3 := I2.lnew (its := []) (ys := []) (t' := s2.toks) .nil (Nat.zero_le _)
  generalize hacc : s2.heap.objs.size = acc at *
  obtain ⟨W, ⟨m0, w0⟩, turn⟩ := R2 acc hp0
  have f3 : ∀ b ∈ fp, FpOk X pins (upd H2 acc (.lst [])) b := fun b hb => by
    refine ⟨?_, (f2 b hb).2⟩
    obtain ⟨o, eo, _⟩ := T.obj _ _ st2 b hb
    rw [upd_ne (Nat.ne_of_lt (by rw [← hacc]; exact Heap.lt_size eo))]
    exact (f2 b hb).1
  have hc : ∀ C s₀, cm (blk X sc N' C s₀ (upd H2 acc (.lst [])) fp) := fun C s₀ => hcm _ rfl rfl fun b o u e => by rw [show (blk X sc N' C s₀ (upd H2 acc (.lst [])) fp).H₀ = upd H2 acc (.lst []) from rfl, upd_ne (ne_of_none e hp0)]; exact e
  have hlt : ∀ b ∈ fp, b < (s2.heap.push { cls := .type "list", data := .seq ([] : List Value).toArray }).objs.size := fun b hb => by
    obtain ⟨o, eo, _⟩ := T.obj _ _ st2 b hb
    rw [Heap.size_push]
    exact Nat.lt_succ_of_lt (Heap.lt_size eo)
  have st3 : tn 0 (s2.heap.push { cls := .type "list", data := .seq ([] : List Value).toArray }) := T.keep _ _ _ st2 fun b hb o e => Heap.get?_push_of_some _ e
  refine new_block ?_
  show codeAny _ _ (.compStart (.ListComp elt [⟨tg, iter, ifs, 0⟩] sc pos) 0 (.ref it) (.ref acc) (blkEnv sc (s2.heap.push { cls := .type "list", data := .seq ([] : List Value).toArray }).objs.size X.env)) (compPost _ _ _ use Qv (.ref acc) (s2.heap.push { cls := .type "list", data := .seq ([] : List Value).toArray }).objs.size) _
  generalize hs3 : ({ s2 with heap := s2.heap.push { cls := .type "list", data := .seq ([] : List Value).toArray }, toks := s2.toks } : Shared) = s3 at *
  have hh3 : s2.heap.push { cls := .type "list", data := .seq ([] : List Value).toArray } = s3.heap := by rw [← hs3]
  have hs3' : ({ s2 with heap := s2.heap.push { cls := .type "list", data := .seq ([] : List Value).toArray } } : Shared) = s3 := by rw [← hs3]
  rw [hh3] at hlt st3 ⊢
  have I4 := inv_block I3 S f3 hlt
  have st4 : tn 0 (pushCells (s3.heap.push { cls := .type "dict", data := .dict #[] }) sc.names) := T.keep _ _ _ st3 fun b hb o e => pushCells_keeps _ _ b o (Heap.get?_push_of_some _ e)
  have key : codeAny (model X.prog X.w) X.A (.compLoop (.ListComp elt [⟨tg, iter, ifs, 0⟩] sc pos) 0 (.ref it) (.ref acc) (blkEnv sc s3.heap.objs.size X.env)) (compPost (model X.prog X.w) X.A X.xe use Qv (.ref acc) s3.heap.objs.size)
      { s3 with heap := pushCells (s3.heap.push { cls := .type "dict", data := .dict #[] }) sc.names } := by
    have stat : ∀ {H' : Hp}, (∀ b ∈ fp, H' b = none) → ∀ b ∈ fp, FpOk (blk X sc N' s3.heap.objs.size s3 (upd H2 acc (.lst [])) fp) [] H' b := fun hn b hb =>
      ⟨hn b hb, (I4.ok.exf b hb).1, I4.ok.exfs b hb, .inl hb, (I4.ok.exf b hb).2, fun p hp => absurd (show p ∈ ([] : List (Addr × Obj)) from hp) (by simp)⟩
    refine comp_loop (fun n s' => ∃ i vs σ' H', Inv (blk X sc N' s3.heap.objs.size s3 (upd H2 acc (.lst [])) fp) [] σ' H' s' ∧ tn i s'.heap ∧ (∀ b ∈ fp, H' b = none) ∧ W i n vs H') ?_ m0
      ⟨0, [], mkσ own.length caps σ, _, I4, st4, fun b hb => (f3 b hb).1, w0⟩
    rintro n s5 ⟨i, vs, σ5, H5, I5, st5, fr5, w5⟩
    obtain ⟨ha5, hz5, ⟨stop, qn⟩ | ⟨go, hz, step⟩⟩ := turn i n vs H5 w5
    · refine thn (T.done (blk X sc N' s3.heap.objs.size s3 (upd H2 acc (.lst [])) fp) rfl rfl rfl (hc _ _) i [] s5 σ5 H5 _ I5 (stat fr5) st5 stop) fun r s6 ⟨hr, I6⟩ => ?_
      subst hr
      have IX : Inv X pins σ H5 s6 := I3.call' (ch := fp) I6.os I6.base I6.hok I6.bare fun b hb => ⟨(f3 b hb).2.2.2.1, (f3 b hb).2.1, (f3 b hb).2.2.2.2.1, (f3 b hb).2.2.2.2.2⟩
      obtain ⟨m6, hn6, _⟩ := I6.loc
      refine fin acc s3.heap.objs.size H5 s6 IX qn ⟨m6, hn6⟩ I6.free (Nat.ne_of_gt I3.lt) I3.sz (fun x c e z => ?_) (fun p hp z => ?_) (I3.nofs (Nat.le_refl _))
      · obtain ⟨v, q⟩ := I3.cell x c e
        exact absurd q.lt (by rw [z]; exact Nat.lt_irrefl _)
      · exact absurd (Heap.lt_size (I3.pin p hp).1) (by rw [z]; exact Nat.lt_irrefl _)
    · -- a turn: the block's own names are forgotten first
      have I5' : Inv (blk X sc N' s3.heap.objs.size s3 (upd H2 acc (.lst [])) fp) [] (mkσ own.length caps σ) H5 s5 := inv_again I3 S f3 I5
      refine thn (T.item (blk X sc N' s3.heap.objs.size s3 (upd H2 acc (.lst [])) fp) rfl rfl rfl (hc _ _) i [] s5 _ H5 _ I5' (stat fr5) st5 go) fun r s6 ⟨u, hr, h6⟩ => ?_
      subst hr
      refine thn h6 fun _ s7 hq2 => ?_
      obtain ⟨x, H7, I7, r7, y7, st7, fr7⟩ := hq2
      have I7' := I7.pinned (stat fr7) (T.obj _ _ st7)
      refine thn (hg _ _ _ _ _ s7 _ H7 x u _ I7' r7 (step x H7 y7)) fun _ s8 ⟨σ8, H8, I8, q8⟩ => ?_
      refine thn (ht _ _ _ _ _ s8 σ8 H8 _ I8 q8) fun b s9 ⟨H9, I9, q9⟩ => ?_
      have again : ∀ {vs' : List V} {σ' : St} {H' : Hp} {s' : Shared}, Inv (blk X sc N' s3.heap.objs.size s3 (upd H2 acc (.lst [])) fp) ([] ++ pinsAt fp s7.heap) σ' H' s' → (∃ m', m' < n ∧ W (i + 1) m' vs' H') →
          ∃ m, m < n ∧ ∃ i vs σ' H', Inv (blk X sc N' s3.heap.objs.size s3 (upd H2 acc (.lst [])) fp) [] σ' H' s' ∧ tn i s'.heap ∧ (∀ b ∈ fp, H' b = none) ∧ W i m vs H' := fun {vs' σ' H' s'} I' ⟨m', hm, w'⟩ => by
        refine ⟨m', hm, i + 1, vs', σ', H', I'.unpinned, T.keep _ _ _ st7 fun b hb o e => (I'.pin (b, o) (List.mem_append_right _ (List.mem_append_right _ (mem_pinsAt hb e)))).1, fun b hb => ?_, w'⟩
        obtain ⟨o, e, d⟩ := T.obj _ _ st7 b hb
        exact (I'.pin (b, o) (List.mem_append_right _ (List.mem_append_right _ (mem_pinsAt hb e)))).2.1
      cases b with
      | false =>
        rw [if_neg Bool.false_ne_true] at q9 ⊢
        exact again I9 q9
      | true =>
        rw [if_pos rfl] at q9 ⊢
        refine thn (he _ _ _ _ _ s9 σ8 H9 _ I9 q9) fun y s10 hq3 => ?_
        obtain ⟨v, H10, I10, r10, hacc10, q10⟩ := hq3
        refine thn (mt_append (X := blk X sc N' s3.heap.objs.size s3 (upd H2 acc (.lst [])) fp) _ s10 σ8 H10 (.ref acc) [v] (.ref acc) [y] (fun _ H' => H' = upd H10 acc (.lst (vs ++ [v]))) I10 rfl (.cons r10 .nil) ⟨acc, vs, v, rfl, rfl, hacc10, hz, rfl⟩) fun _ s11 hq4 => ?_
        obtain ⟨_, H11, I11, _, e11⟩ := hq4
        subst e11
        exact again I11 q10
  exact codeAny_compStart_list key (T.self _ _ _ _ _ st4 key)
end
end L3

namespace L3
open PySem PySem.Spec PyProof.Rows L2

def ItD (K : PySem.W.Frag) (F Hx : Hp) (J : It) (ds : List D) : Prop := ds.length ≤ sizeLine ∧ ∀ (i : Nat) (H1 F1 : Hp), Same F F1 → Same F1 H1 → Same Hx H1 →
  (i = ds.length → J.stop i H1) ∧ ∀ d, ds[i]? = some d → J.go i H1 ∧ ∀ x H', J.yld i H1 x H' → ∃ F2, Gr F1 H1 F2 H' ∧ Rep K F2 d x
def noH : Hp := fun _ => none
theorem noH_same {H : Hp} : Same noH H := fun _ _ e => by cases e
def upI (K : PySem.W.Frag) (F0 H0 : Hp) (t : TF2) (E : XW) : TI := fun σ H R => ∃ F Γ P, SR K F0 H0 F H σ Γ ∧ t Γ P E ∧ ∀ ds Γ' F' H' J Hx, SR K F0 H0 F' H' σ Γ' → Same F F' → Same Hx H' → ItD K F' Hx J ds → P ds Γ' → R J H'
def upI0 (K : PySem.W.Frag) (F0 H0 : Hp) (t : TF2) (E : XW) : TI := fun σ H R => ∃ F Γ P, SR K F0 H0 F H σ Γ ∧ t Γ P E ∧ ∀ ds Γ' F' H' J, SR K F0 H0 F' H' σ Γ' → Same F F' → ItD K F' noH J ds → P ds Γ' → R J H'
def QI (X : Cx) (F0 H0 : Hp) (tg e : Expr) (t : TF2) : Prop := ∀ z E, Ctx (X.wsh z) F0 H0 E → PI (X.wsh z) tg e (upI0 X.K F0 H0 t E)
def QIc (X : Cx) (F0 H0 : Hp) (tg e : Expr) (t : TF2) : Prop := ∀ z E, Ctx (X.wsh z) F0 H0 E → PI (X.wsh z) tg e (upI X.K F0 H0 t E)
theorem piC {X : Cx} {tg e : Expr} {t t' : TI} (h : PI X tg e t) (hi : ∀ σ H R, t' σ H R → t σ H R) : PI X tg e t' := fun pins s σ H R I q => h pins s σ H R I (hi _ _ _ q)
theorem qic {X : Cx} {F0 H0 : Hp} {tg e : Expr} {t : TF2} (h : QI X F0 H0 tg e t) : QIc X F0 H0 tg e t := fun z E cx => piC (h z E cx) fun σ H R hq1 => by obtain ⟨F, Γ, P, S, q, k⟩ := hq1; exact ⟨F, Γ, P, S, q, fun ds Γ' F' H' J S' s' hJ hp => k ds Γ' F' H' J noH S' s' noH_same hJ hp⟩

def iSeqZ (K : PySem.W.Frag) (tl : TE) : TI := fun σ H R => tl σ H fun x H1 => ∃ a, x = .ref a ∧ ((∃ xs, SqL K H1 a xs ∧ (xs.length ≤ sizeLine → R (Itl K a) H1)) ∨ (∃ xs, SqT K H1 a xs ∧ (xs.length ≤ sizeLine → R (Itt K a) H1)))
theorem pi_seqZ {X : Cx} {l tg : Expr} {tl : TE} (hl : PE X l tl) : PI X tg l (iSeqZ X.K tl) := by
  intro pins s σ H R I h
  refine thn (hl pins s σ H _ I h) fun v s1 hq2 => ?_
  obtain ⟨x, H1, I1, r1, q1⟩ := hq2
  obtain ⟨a, e, q⟩ := q1
  subst e
  cases r1
  rcases q with ⟨xs, hq, q⟩ | ⟨xs, hq, q⟩
  · obtain ⟨its, rv, p, hz⟩ := I1.list hq
    refine wpAny_pyIter_list p.isList ?_
    refine ⟨s1.heap.objs.size, [s1.heap.objs.size], _, _, H1, rfl, I1.kept (t' := s1.toks) fun b o e => Heap.get?_push_of_some _ e, turn_list a _, ⟨_, Heap.get?_push_size _ rfl, rfl, rfl⟩, fun b hb => ?_, q hz⟩
    obtain rfl : b = s1.heap.objs.size := by simpa using hb
    exact I1.fpOk (Nat.le_refl _) (I1.hok.fresh (Nat.le_refl _))
  · obtain ⟨its, rv, p, hz⟩ := I1.tuple hq
    refine wpAny_pyIter_tuple (show s1.heap.IsTuple a its.toArray from p) ?_
    refine ⟨s1.heap.objs.size, [s1.heap.objs.size], _, _, H1, rfl, I1.kept (t' := s1.toks) fun b o e => Heap.get?_push_of_some _ e, turn_tuple a _, ⟨_, Heap.get?_push_size _ rfl, rfl, rfl⟩, fun b hb => ?_, q hz⟩
    obtain rfl : b = s1.heap.objs.size := by simpa using hb
    exact I1.fpOk (Nat.le_refl _) (I1.hok.fresh (Nat.le_refl _))
theorem itd_tup {K : PySem.W.Frag} {F Hx : Hp} {a : Addr} {vs : List V} {ds : List D} (hq : ∀ H1, Same F H1 → SqT K H1 a vs) (rs : Reps K F ds vs) (hz : vs.length ≤ sizeLine) : ItD K F Hx (Itt K a) ds := by
  have hl := reps_len rs
  refine ⟨by omega, fun i H1 F1 s1 s2 s3 => ⟨fun e => ⟨vs, hq H1 (s1.trans s2), by omega⟩, fun d hd => ?_⟩⟩
  obtain ⟨v, hv, rv⟩ := reps_get rs hd
  refine ⟨⟨vs, v, hq H1 (s1.trans s2), hv⟩, fun x H' y => ?_⟩
  obtain ⟨rfl, y⟩ := y
  have := y vs (hq _ (s1.trans s2))
  rw [hv] at this; cases this
  exact ⟨F1, Gr.refl s2, rv.up s1⟩
def iL (te : TE2) : TF2 := fun Γ P E => te Γ (fun d Γ1 => match d with | .lst ds => P ds Γ1 | .tup ds => P ds Γ1 | _ => False) E
section
variable {X : Cx} {F0 H0 : Hp} {e tg : Expr} {es : List Expr} {pos : Pos} {te : TE2} {g : TG2} {gs : TGs2} {ti : TF2} {tb : TS2}
theorem qi_seq (h : QE X F0 H0 e te) : QI X F0 H0 tg e (iL te) := fun z E cx => piC (pi_seqZ (h z E cx)) fun σ H R hq3 => by obtain ⟨F, Γ, P, S, q, k⟩ := hq3; exact ⟨F, Γ, _, S, q, fun d Γ1 F1 H1 v R1 s1 r1 h1 => by
  cases d with
  | lst ds =>
    unfold Rep at r1
    obtain ⟨a, vs, rfl, hq, rs⟩ := r1
    refine ⟨a, rfl, .inl ⟨vs, R1.g.seq hq, fun hz => k ds Γ1 F1 H1 _ R1 s1 ?_ h1⟩⟩
    refine ⟨by rw [reps_len rs]; exact hz, fun i H2 F2 s2 s3 s4 => ⟨fun e => ⟨vs, s3.seq (s2.seq hq), by rw [e, reps_len rs]; exact Nat.le_refl _⟩, fun d hd => ?_⟩⟩
    obtain ⟨v, hv, rv⟩ := reps_get rs hd
    refine ⟨⟨vs, v, s3.seq (s2.seq hq), hv⟩, fun x H' y => ?_⟩
    obtain ⟨rfl, y⟩ := y
    have := y vs (s3.seq (s2.seq hq))
    rw [hv] at this; cases this
    exact ⟨F2, Gr.refl s3, rv.up s2⟩
  | tup ds =>
    unfold Rep at r1
    obtain ⟨a, vs, rfl, hq, rs⟩ := r1
    exact ⟨a, rfl, .inr ⟨vs, sqT_mono R1.g hq, fun hz => k ds Γ1 F1 H1 _ R1 s1 (itd_tup (fun H2 s => sqT_mono s hq) rs hz) h1⟩⟩
  | _ => exact False.elim h1⟩
def cForI (ti : TF2) (g : TG2) (tb : TS2) : TS2 := fun D0 Γ E => ti Γ (fun ds Γ1 => LoopW ds g tb D0 E Γ1) E
def capS (Γ : G2) (j : Nat) : Slot := match Γ[j]? with | some (.pu d) => .pu d | _ => .no
def capG (own : Nat) (caps : List Nat) (Γ : G2) : G2 := List.replicate own .no ++ caps.map (capS Γ)
theorem sr_block {K : PySem.W.Frag} {F H : Hp} {σ : St} {Γ : G2} (own : Nat) (caps : List Nat) (R : SR K F0 H0 F H σ Γ) : SR K F H F H (mkσ own caps σ) (capG own caps Γ) := by
  have len : (mkσ own caps σ).length = (capG own caps Γ).length := by simp [mkσ, capG]
  have noow : ∀ (i : Nat) s o a, (capG own caps Γ)[i]? = some s → ¬ Own1 s o a := fun i s o a e => by
    unfold capG at e
    by_cases hi : i < own
    · rw [List.getElem?_append_left (by simpa using hi), List.getElem?_replicate] at e
      rw [if_pos hi] at e
      cases e; exact fun h => h
    · rw [List.getElem?_append_right (by simpa using hi), List.getElem?_map] at e
      cases q : caps[i - (List.replicate own Slot.no).length]? with
      | none => rw [q] at e; cases e
      | some j =>
        rw [q] at e
        have e' : capS Γ j = s := by simpa using e
        unfold capS at e'
        split at e' <;> (subst e'; exact fun h => h)
  refine ⟨Gr.refl R.g, len, fun i s e => ?_, fun i j a hq5 => by obtain ⟨s, o, e, _, h⟩ := hq5; exact absurd h (noow i s o a e)⟩
  by_cases hi : i < own
  · refine ⟨none, ?_, ?_⟩
    · unfold mkσ; rw [List.getElem?_append_left (by simpa using hi), List.getElem?_replicate, if_pos hi]
    · unfold capG at e; rw [List.getElem?_append_left (by simpa using hi), List.getElem?_replicate, if_pos hi] at e
      cases e; trivial
  · unfold capG at e
    rw [List.getElem?_append_right (by simpa using hi), List.getElem?_map, List.length_replicate] at e
    cases q : caps[i - own]? with
    | none => rw [q] at e; cases e
    | some j =>
      rw [q] at e
      have e' : capS Γ j = s := by simpa using e
      refine ⟨(σ[j]?).join, ?_, ?_⟩
      · unfold mkσ; rw [List.getElem?_append_right (by simpa using hi), List.getElem?_map, List.length_replicate, q]; rfl
      · unfold capS at e'
        split at e'
        · rename_i d hd
          subst e'
          obtain ⟨o, e1, v, rfl, rv⟩ := R.sl j _ hd
          exact ⟨v, by rw [e1]; rfl, rv⟩
        · subst e'; trivial
def oneR (g : TG2) (tc : TT2) (te : TE2) (Γ0 : G2) (x : D) (P : List D → Prop) : Prop := g x Γ0 (fun Γ1 => tc Γ1 (fun b Γ2 => if b = true then te Γ2 (fun d _ => P [d]) noX else P []) noX) noX
def compR (one : D → (List D → Prop) → Prop) : List D → (List D → Prop) → Prop
  | [], P => P []
  | x :: xs, P => one x fun ys => compR one xs fun zs => P (ys ++ zs)
def fComp (own : Nat) (caps : List Nat) (ti : TF2) (g : TG2) (tc : TT2) (te : TE2) : TF2 := fun Γ P E => ti Γ (fun ds Γ1 => compR (oneR g tc te (capG own caps Γ1)) ds fun ys => P ys Γ1) E
def cYes : TT2 := fun Γ P _ => P true Γ
def QTs (X : Cx) (F0 H0 : Hp) (ifs : List Expr) (t : TT2) : Prop := ∀ z E, Ctx (X.wsh z) F0 H0 E → PTs (X.wsh z) ifs (upT X.K F0 H0 t E)
theorem qts_nil : QTs X F0 H0 [] cYes := fun z E cx pins s σ H Q I hq6 => by obtain ⟨F, Γ, P, R, h, k⟩ := hq6; exact pts_nil pins s σ H Q I (k _ _ _ _ R (.refl _) h)
theorem qts_one {c : Expr} {t : TT2} (h : QT X F0 H0 c t) : QTs X F0 H0 [c] t := fun z E cx => pts_one (h z E cx)
end

section
variable {X : Cx} {F0 H0 : Hp} {elt tg iter : Expr} {ifs : List Expr} {sc : Scope} {own : List Str} {caps : List Nat} {N' : List Str} {pos : Pos} {te : TE2} {g : TG2} {tc : TT2} {ti : TF2}
def gX (K : PySem.W.Frag) (g : TG2) : TG := fun v σ H Q => ∃ F0 H0, upG K F0 H0 g noX v σ H Q
def tX (K : PySem.W.Frag) (t : TT2) : TT := fun σ H Q => ∃ F0 H0, upT K F0 H0 t noX σ H Q
def eX (K : PySem.W.Frag) (t : TE2) : TE := fun σ H Q => ∃ F0 H0, upE K F0 H0 t noX σ H Q
theorem fr_keep {F H F' H' : Hp} {a : Addr} {vs : List V} (gr : Gr F H F' H') (h : F a = none) (e : H a = some (.lst vs)) : F' a = none := by
  cases q : F' a with
  | none => rfl
  | some u =>
    rcases gr.n a u q h with z | ⟨⟨xs, e'⟩, z⟩
    · rw [e] at z; cases z
    · rw [e] at z; cases z; cases e'
theorem comp_word {K : PySem.W.Frag} {F H : Hp} {σ : St} {Γ : G2} {J : It} {Hx : Hp} {ds : List D} {acc : Addr} {P : List D → Prop} {Q : V → Hp → Prop} (R : SR K F0 H0 F H σ Γ) (hJ : ItD K F Hx J ds) (hx : Same Hx H) (ha : H acc = none)
    (h : compR (oneR g tc te (capG own.length caps Γ)) ds P)
    (fin : ∀ ys F' H' vs, SR K F0 H0 F' H' σ Γ → Same F F' → H' acc = some (.lst vs) → F' acc = none → H0 acc = none → Reps K F' ys vs → Apart σ Γ acc → P ys → Q (.ref acc) H') :
    CompW acc J (mkσ own.length caps σ) (gX K g) (tX K tc) (eX K te) Q (upd H acc (.lst [])) := by
  obtain ⟨R1, e1, e2, e3, ap⟩ := new_lst (ds := []) (vs := []) R ha (by unfold Reps; rfl)
  have hx1 : Same Hx (upd H acc (.lst [])) := fun b u e => by rw [upd_ne (ne_of_none (hx b u e) ha)]; exact hx b u e
  have xa : ∀ u, Hx acc ≠ some u := fun u e => by rw [hx acc u e] at ha; cases ha
  refine ⟨fun i m vs H' => m = ds.length - i ∧ i ≤ ds.length ∧ ∃ F' ys, SR K F0 H0 F' H' σ Γ ∧ Same F F' ∧ Same Hx H' ∧ H' acc = some (.lst vs) ∧ F' acc = none ∧ Reps K F' ys vs ∧ vs.length ≤ i ∧ compR (oneR g tc te (capG own.length caps Γ)) (ds.drop i) (fun zs => P (ys ++ zs)),
    ⟨ds.length, by simp, Nat.zero_le _, F, [], R1, .refl _, hx1, e1, e2, by unfold Reps; rfl, Nat.le_refl _, by simpa using h⟩, ?_⟩
  rintro i m vs H' ⟨rfl, hi, F', ys, R', sF, hx', ha', fa', rs, lv, hc⟩
  have hz := hJ.1
  refine ⟨ha', by omega, ?_⟩
  obtain ⟨hstop, hgo⟩ := hJ.2 i H' F' sF R'.g hx'
  by_cases hlt : i < ds.length
  · obtain ⟨go, yl⟩ := hgo ds[i] (List.getElem?_eq_getElem hlt)
    refine .inr ⟨go, by omega, fun x H2 y => ?_⟩
    obtain ⟨F2, gr, rx⟩ := yl x H2 y
    rw [List.drop_eq_getElem_cons hlt] at hc
    have R2 := R'.grow gr
    refine ⟨F2, H2, F2, capG own.length caps Γ, _, ds[i], sr_block own.length caps R2, rx, hc, fun Γ3 F3 H3 σ3 R3 s3 q3 => ?_⟩
    refine ⟨F2, H2, F3, Γ3, _, R3, q3, fun b Γ4 F4 H4 R4 s4 q4 => ?_⟩
    have gr2 : Gr F' H' F4 H4 := gr.trans R4.gr
    cases b with
    | false =>
      rw [if_neg Bool.false_ne_true] at q4
      show ∃ m', m' < ds.length - i ∧ _
      refine ⟨ds.length - (i + 1), by omega, rfl, hlt, F4, ys, R'.grow gr2, sF.trans gr2.f, fun b u e => gr2.h b u (hx' b u e), gr2.h _ _ ha', fr_keep gr2 fa' ha', rs.up gr2.f, by omega, ?_⟩
      simpa using q4
    | true =>
      rw [if_pos rfl] at q4
      show eX K te σ3 H4 _
      refine ⟨F2, H2, F4, Γ4, _, R4, q4, fun d Γ5 F5 H5 v R5 s5 rv q5 => ?_⟩
      have gr3 : Gr F' H' F5 H5 := gr.trans R5.gr
      have a5 := gr3.h _ _ ha'
      have f5 := fr_keep gr3 fa' ha'
      refine ⟨a5, ds.length - (i + 1), by omega, rfl, hlt, F5, ys ++ [d], ?_, sF.trans gr3.f, fun b u e => ?_, upd_same, f5, reps_app (rs.up gr3.f) (reps_one rv), by simp; omega, ?_⟩
      · have R6 := R'.grow gr3
        refine ⟨⟨R6.gr.f, fun b u e => ?_, fun b u e => ?_, R6.gr.n⟩, R6.len, fun j sl e => ?_, R6.ap⟩
        · rw [upd_ne (ne_of_none e f5)]; exact R6.g b u e
        · rw [upd_ne (ne_of_none e e3)]; exact R6.gr.h b u e
        · obtain ⟨o, p1, p2⟩ := R6.sl j sl e
          refine ⟨o, p1, slotR_move p2 (.refl _) fun c hc => ⟨(own1_of p2 hc).1, fun u q => ?_⟩⟩
          have : c ≠ acc := fun z => by subst z; exact ap j ⟨sl, o, e, p1, hc⟩
          rw [upd_ne this]; exact q
      · rw [upd_ne (fun z => xa u (by rw [← z]; exact e))]; exact gr3.h b u (hx' b u e)
      · simpa [List.append_assoc] using q5
  · obtain rfl : i = ds.length := by omega
    refine .inl ⟨hstop rfl, fin ys F' H' vs R' sF ha' fa' e3 rs ap ?_⟩
    rw [List.drop_length] at hc
    simpa [compR] using hc
structure CpOk (N : List Str) (sc : Scope) (own : List Str) (caps : List Nat) (osc : Scope) (N' : List Str) : Prop where
  kind : sc.kind = .function
  nd : N'.Nodup
  snd : (sc.names.map (·.1)).Nodup
  free : ∀ p ∈ sc.names, p.2 = .free → osc.names.lookup p.1 = some .cell ∨ osc.names.lookup p.1 = some .free
  names : N' = own ++ caps.map fun j => N.getD j ""
  caps : ∀ j ∈ caps, j < N.length ∧ sc.names.lookup (N.getD j "") = some .free
theorem CpOk.cs (h : CpOk X.N sc own caps X.env.scope N') : CpScope X.N sc own caps X.env N' := ⟨h.kind, h.nd, h.snd, h.free, h.names, h.caps⟩
def QIg (X : Cx) (F0 H0 : Hp) (tg e : Expr) (t : TF2) : Prop := ∀ z E, Ctx (X.wsh z) F0 H0 E → PIg (X.wsh z) tg e (upI X.K F0 H0 t E)
theorem qf_compG (S : CpOk X.N sc own caps X.env.scope N') (hi : QIg X F0 H0 tg iter ti)
    (hg : ∀ C s₀ H₀ fp F0 H0, QG (blk X sc N' C s₀ H₀ fp) F0 H0 tg g) (ht : ∀ C s₀ H₀ fp F0 H0, QTs (blk X sc N' C s₀ H₀ fp) F0 H0 ifs tc) (he : ∀ C s₀ H₀ fp F0 H0, QE (blk X sc N' C s₀ H₀ fp) F0 H0 elt te)
    {n : Nat} (hn : own.length = n := by rfl) (hs : ∀ x, foldedSetIterable iter X.env x = pure x := by intro _; rfl) : QF X F0 H0 (.ListComp elt [⟨tg, iter, ifs, 0⟩] sc pos) (fComp n caps ti g tc te) := by
  subst hn
  rintro z E cx pins s σ H Q I ⟨F, Γ, P, R, h, k⟩
  rw [show eval (.ListComp elt [⟨tg, iter, ifs, 0⟩] sc pos) (X.wsh z).env = comprehension (.ListComp elt [⟨tg, iter, ifs, 0⟩] sc pos) sc X.env _ (newList []) false (eval iter X.env) from eval_ListComp ..]
  refine comp_core (X := X.wsh z) (g := gX X.K g) (tc := tX X.K tc) (te := eX X.K te) (Q := Q) (CpOk.cs (X := X.wsh z) S) (hi z E cx) ?_ ?_ ?_ rfl hs I ?_ ?_
  · rintro C s₀ H₀ fp pins s σ H v u Q I r ⟨F0', H0', q⟩
    exact hg C s₀ H₀ fp F0' H0' ⟨fun _ _ => False, []⟩ noX ctx_never pins s σ H v u Q I r q
  · rintro C s₀ H₀ fp pins s σ H Q I ⟨F0', H0', q⟩
    exact ht C s₀ H₀ fp F0' H0' ⟨fun _ _ => False, []⟩ noX ctx_never pins s σ H Q I q
  · rintro C s₀ H₀ fp pins s σ H Q I ⟨F0', H0', q⟩
    exact he C s₀ H₀ fp F0' H0' ⟨fun _ _ => False, []⟩ noX ctx_never pins s σ H Q I q
  · exact ⟨F, Γ, _, R, h, fun ds Γ1 F1 H1 J Hx R1 s1 hx hJ h1 acc ha => comp_word R1 hJ hx ha h1 fun ys F' H' vs R' sF a1 a2 a3 rs ap hp => k ys Γ1 F' H' acc vs R' (s1.trans sF) a1 a2 a3 rs ap hp⟩
  · rintro acc C H' s5 I5 q5 ⟨m, hn⟩ c1 c2 c3 c4 c5 c6
    exact ⟨m, hn, fun h' hs' => ⟨.ref acc, H', I5.turned (t' := s5.toks) (it := C) (fun b o hb e => (hs'.2 b hb).trans e) c1 c2 (.inr c3) c4 c5, rfl, q5⟩⟩
theorem qf_comp (S : CpOk X.N sc own caps X.env.scope N') (hc : X.calm = true) (hi : QIc X F0 H0 tg iter ti)
    (hg : ∀ C s₀ H₀ fp F0 H0, QG (blk X sc N' C s₀ H₀ fp) F0 H0 tg g) (ht : ∀ C s₀ H₀ fp F0 H0, QTs (blk X sc N' C s₀ H₀ fp) F0 H0 ifs tc) (he : ∀ C s₀ H₀ fp F0 H0, QE (blk X sc N' C s₀ H₀ fp) F0 H0 elt te)
    {n : Nat} (hn : own.length = n := by rfl) (hs : ∀ x, foldedSetIterable iter X.env x = pure x := by intro _; rfl) : QF X F0 H0 (.ListComp elt [⟨tg, iter, ifs, 0⟩] sc pos) (fComp n caps ti g tc te) := qf_compG S (fun z E cx => pig hc (hi z E cx)) hg ht he hn hs
theorem qs_setC {i : Nat} {y : Str} {py spos : Pos} (hN : X.N.Nodup) (hi' : X.N[i]? = some y) (hy : X.env.scope.names.lookup y = some .local) (S : CpOk X.N sc own caps X.env.scope N') (hc : X.calm = true) (hi : QIc X F0 H0 tg iter ti)
    (hg : ∀ C s₀ H₀ fp F0 H0, QG (blk X sc N' C s₀ H₀ fp) F0 H0 tg g) (ht : ∀ C s₀ H₀ fp F0 H0, QTs (blk X sc N' C s₀ H₀ fp) F0 H0 ifs tc) (he : ∀ C s₀ H₀ fp F0 H0, QE (blk X sc N' C s₀ H₀ fp) F0 H0 elt te)
    {n : Nat} (hn : own.length = n := by rfl) (hsw : swapsWith (.ListComp elt [⟨tg, iter, ifs, 0⟩] sc pos) (some (.Name y py)) spos.line X.env = pure true := by rfl) (hs : ∀ x, foldedSetIterable iter X.env x = pure x := by intro _; rfl) :
    QS X F0 H0 (.Assign [.Name y py] (.ListComp elt [⟨tg, iter, ifs, 0⟩] sc pos) spos) (cSetF i (fComp n caps ti g tc te)) := by
  subst hn
  rintro z E cx pins s σ H Dn I ⟨F, Γ, D2, R, h, k⟩
  show wpAny _ _ (exec (.Assign [.Name y py] (.ListComp elt [⟨tg, iter, ifs, 0⟩] sc pos) spos) X.env) _ _ _
  rw [exec_Assign_Name_used _ _ _ _ hsw]
  refine wpAny_bind (wpAny_standAt (wpAny_bind ?_))
  show wpAny _ _ (do let _ ← comprehension (.ListComp elt [⟨tg, iter, ifs, 0⟩] sc pos) sc X.env _ (newList []) false (eval iter X.env) (some (assign (.Name y py) X.env))) _ _ s
  refine wpAny_bind (wpAny_mono (comp_core (X := X.wsh z) (use := some (assign (.Name y py) X.env)) (Qv := fun _ s' => SP (X.wsh z) pins Dn .next s') (g := gX X.K g) (tc := tX X.K tc) (te := eX X.K te) (Q := fun v H' => Dn.nx (σ.set i (some v)) H') (CpOk.cs (X := X.wsh z) S) (pig hc (hi z E cx)) ?_ ?_ ?_ rfl hs I ?_ ?_) (fun _ s' hq => wpAny_pure (wpAny_pure hq)) fun _ _ e => e)
  · rintro C s₀ H₀ fp pins s σ H v u Q I r ⟨F0', H0', q⟩
    exact hg C s₀ H₀ fp F0' H0' ⟨fun _ _ => False, []⟩ noX ctx_never pins s σ H v u Q I r q
  · rintro C s₀ H₀ fp pins s σ H Q I ⟨F0', H0', q⟩
    exact ht C s₀ H₀ fp F0' H0' ⟨fun _ _ => False, []⟩ noX ctx_never pins s σ H Q I q
  · rintro C s₀ H₀ fp pins s σ H Q I ⟨F0', H0', q⟩
    exact he C s₀ H₀ fp F0' H0' ⟨fun _ _ => False, []⟩ noX ctx_never pins s σ H Q I q
  · exact ⟨F, Γ, _, R, h, fun ds Γ1 F1 H1 J Hx R1 s1 hx hJ h1 acc ha => comp_word R1 hJ hx ha h1 fun ys F' H' vs R' sF a1 a2 a3 rs ap hp => k.nx _ _ _ _ (R'.setOw i a1 a2 a3 rs ap) (s1.trans sF) hp⟩
  · rintro acc C H' s5 I5 q5 ⟨m, hn⟩ c1 c2 c3 c4 c5 c6
    show wpAny _ _ (assign (.Name y py) X.env (.ref acc)) _ _ _
    refine wpAny_assign_Name (store_ok2 (X := X.wsh z) I5 hN hi' (.inl hy) (v := .ref acc) rfl (fun s6 I6 ⟨a, hsb, ha⟩ => ?_) (.inr hy))
    have ha' : a = X.env.locals ∨ X.env.cells.lookup y = some a := ha
    have hac : C ≠ a := by
      rcases ha' with rfl | ha'
      · exact c2
      · exact fun z => c4 y a ha' z.symm
    refine ⟨m, hn.sameBut hsb hac, fun h' hs' => ⟨_, H', I6.turned (t' := s6.toks) (it := C) (fun b o hb e => (hs'.2 b hb).trans e) c1 c2 (.inr c3) c4 c5, q5⟩⟩
end
end L3

namespace L3
open PySem PySem.Spec PyProof.Rows L2

def rUpN (K : PySem.W.Frag) (g : List D → (List D → Prop) → Prop) : List V → Hp → VK → Prop := fun vs H Q => ∃ F ds P, Same F H ∧ Reps K F ds vs ∧ g ds P ∧ ∀ es us l, Reps K F es us → H l = none → P es → Q (.ref l) (upd H l (.lst us))
section
variable {X : Cx} {F0 H0 : Hp} {a b e : Expr} {es : List Expr} {pos p p2 : Pos} {ta tb te : TE2} {t : TF2} {x : Str}
def fCB (g : List D → (List D → Prop) → Prop) (t : TF2) : TF2 := fun Γ P E => t Γ (fun ds Γ1 => g ds fun es => P es Γ1) E
theorem qe_callT {T : String} {g : List D → (D → Prop) → Prop} (hc : ∀ z, CallR (X.wsh z) (.type T) (rUpA X.K g)) (hg : Gl X x) (hm : X.mg x = none) (hv : bootBuiltins x = some (.type T)) (ha : QA X F0 H0 (e :: es) t) (hn : x ≠ "__name__" := by decide) (hdb : (x == ("__debug__" : Str)) = false := by decide)
    (he : starEach (e :: es) X.env = (false, eval e X.env) :: starEach es X.env := by rfl) (hpl : (backTo pos (starEach es X.env)).any (·.1) = false := by rfl) : QE X F0 H0 (.Call (.Name x p) (e :: es) [] pos) (cCB g t) := fun z E cx =>
  peC (pe_callTy (X := X.wsh z) (hc z) hg hm hv (ha z E cx) hn hdb he hpl) fun _ _ _ h => cCB_up h
end

def n_list : List D → (List D → Prop) → Prop := fun ds P => match ds with | [.lst xs] => P xs | [.tup xs] => P xs | _ => False
def u_tuple : List D → (D → Prop) → Prop := fun ds P => match ds with | [.lst xs] => P (.tup xs) | [.tup xs] => P (.tup xs) | _ => False
def cutD (xs : List D) (lo hi : Option Int) : List D := (xs.drop (HT.sIx xs.length 0 lo)).take (HT.sIx xs.length xs.length hi - HT.sIx xs.length 0 lo)
theorem reps_cut {K : PySem.W.Frag} {F : Hp} {ds : List D} {vs : List V} (r : Reps K F ds vs) (lo hi : Option Int) : Reps K F (cutD ds lo hi) (cutV vs lo hi) := by
  unfold cutD cutV
  rw [reps_len r]
  exact reps_take _ (reps_drop _ r)
abbrev TO2 := G2 → (Option Int → G2 → Prop) → XW → Prop
def upO (K : PySem.W.Frag) (F0 H0 : Hp) (t : TO2) (E : XW) : TO := fun σ H Q => ∃ F Γ P, SR K F0 H0 F H σ Γ ∧ t Γ P E ∧ ∀ o Γ' F' H', SR K F0 H0 F' H' σ Γ' → Same F F' → P o Γ' → Q o H'
def QO (X : Cx) (F0 H0 : Hp) (e : Option Expr) (t : TO2) : Prop := ∀ z E, Ctx (X.wsh z) F0 H0 E → PO (X.wsh z) e (upO X.K F0 H0 t E)
theorem poC {X : Cx} {e : Option Expr} {t t' : TO} (h : PO X e t) (hi : ∀ σ H Q, t' σ H Q → t σ H Q) : PO X e t' := fun pins s σ H Q I q => h pins s σ H Q I (hi _ _ _ q)
def oNo : TO2 := fun Γ P _ => P none Γ
def oIs (te : TE2) : TO2 := fun Γ P E => te Γ (fun d Γ1 => match d with | .int i => P (some i) Γ1 | _ => False) E
section
variable {X : Cx} {F0 H0 : Hp} {a b e : Expr} {es : List Expr} {pos p p2 : Pos} {ta tb te : TE2} {t : TF2} {x : Str} {lo hi : Option Expr} {tl th : TO2}
theorem qo_no : QO X F0 H0 none oNo := fun z E cx => poC po_none fun σ H Q hq1 => by obtain ⟨F, Γ, P, R, h, k⟩ := hq1; exact k _ _ _ _ R (.refl _) h
theorem qo_is (h : QE X F0 H0 e te) : QO X F0 H0 (some e) (oIs te) := fun z E cx => poC (po_some (h z E cx)) fun σ H Q hq2 => by obtain ⟨F, Γ, P, R, h, k⟩ := hq2; exact ⟨F, Γ, _, R, h, fun d Γ1 F1 H1 v R1 s1 r q => by
  cases d with
  | int i => unfold Rep at r; exact ⟨i, r, k _ _ _ _ R1 s1 q⟩
  | _ => exact False.elim q⟩
def fSl (te : TE2) (tl th : TO2) : TF2 := fun Γ P E => te Γ (fun d Γ1 => tl Γ1 (fun l Γ2 => th Γ2 (fun u Γ3 => match d with | .lst xs => P (cutD xs l u) Γ3 | _ => False) E) E) E
theorem qf_slice (he : QE X F0 H0 e te) (hl : QO X F0 H0 lo tl) (hh : QO X F0 H0 hi th) : QF X F0 H0 (.Subscript e (.Slice lo hi none p2) pos) (fSl te tl th) := fun z E cx =>
  peC (pe_slice sl_list (he z E cx) (hl z E cx) (hh z E cx)) fun σ H Q hq3 => by obtain ⟨F, Γ, P, R, h, k⟩ := hq3; exact ⟨F, Γ, _, R, h, fun d Γ1 F1 H1 v R1 s1 r1 h1 => ⟨F1, Γ1, _, R1, h1, fun l Γ2 F2 H2 R2 s2 h2 => ⟨F2, Γ2, _, R2, h2, fun u Γ3 F3 H3 R3 s3 h3 => by
    cases d with
    | lst xs =>
      have r3 := r1.up (s2.trans s3)
      unfold Rep at r3
      obtain ⟨a, vs, rfl, hq, rs⟩ := r3
      refine ⟨a, vs, rfl, R3.g.seq hq, fun p hp => ?_⟩
      have rc := reps_cut rs l u
      obtain ⟨R4, e1, e2, e3, ap⟩ := new_lst R3 hp rc
      exact k _ Γ3 F3 _ p _ R4 (s1.trans (s2.trans s3)) e1 e2 e3 rc ap h3
    | _ => exact False.elim h3⟩⟩⟩
def fRev (te : TE2) : TF2 := fun Γ P E => te Γ (fun d Γ1 => match d with | .lst xs => P xs.reverse Γ1 | _ => False) E
end

section
variable {X : Cx}
theorem toI {A : Around} (h : A.handled = none) : A.in1.handled = none := h
theorem ep_after {pins : List (Addr × Obj)} {σ : St} {H : Hp} {s : Shared} {h' : Heap} {tk : Nat} {Q : VK} {v : V} {u : Value} (I : Inv X pins σ H s) (k : ∀ b o, s.heap.get? b = some o → h'.get? b = some o) (r : RelV v u) (q : Q v H) : EP X pins σ Q u { s with heap := h', toks := tk } := ⟨v, H, I.kept k, r, q⟩
def intsD : List D → Option (List Int)
  | [] => some []
  | .int i :: r => (intsD r).map (i :: ·)
  | _ :: _ => none
def blsD : List D → Option (List Bool)
  | [] => some []
  | .bl i :: r => (blsD r).map (i :: ·)
  | _ :: _ => none
theorem bls_vals {K : PySem.W.Frag} {F : Hp} : ∀ {ds : List D} {vs : List V} {ns : List Bool}, Reps K F ds vs → blsD ds = some ns → vs = ns.map .bl
  | [], vs, ns, r, h => by unfold Reps at r; cases h; subst r; rfl
  | .bl i :: ds, vs, ns, r, h => by
    unfold Reps Rep at r
    obtain ⟨v, us, rfl, rfl, r⟩ := r
    unfold blsD at h
    cases q : blsD ds with
    | none => rw [q] at h; cases h
    | some ms =>
      rw [q] at h; cases h
      rw [bls_vals r q]; rfl
  | .non :: _, _, _, _, h => by cases h
  | .int _ :: _, _, _, _, h => by cases h
  | .str _ :: _, _, _, _, h => by cases h
  | .tup _ :: _, _, _, _, h => by cases h
  | .lst _ :: _, _, _, _, h => by cases h
  | .exc _ :: _, _, _, _, h => by cases h
  | .ptr _ :: _, _, _, _, h => by cases h
  | .obj _ _ _ :: _, _, _, _, h => by cases h
  | .dic _ _ :: _, _, _, _, h => by cases h
  | .dit _ _ :: _, _, _, _, h => by cases h
def u_sum : List D → (D → Prop) → Prop := fun ds P => match ds with | [.lst xs] => ∃ ns, intsD xs = some ns ∧ P (.int ns.sum) | _ => False
theorem lw_start {h : Heap} {p : Addr} {its : Array Value} (pl : PlainL h p its) : (h.push { cls := .type "list_iterator", data := .fields #[.ref p, rawInt 0] }).IsListIter h.objs.size p 0 ∧ (h.push { cls := .type "list_iterator", data := .fields #[.ref p, rawInt 0] }).IsList p its := by
  refine ⟨⟨_, Heap.get?_push_size _ rfl, rfl, rfl⟩, ?_⟩
  obtain ⟨o, n, e, hcl, _, hd⟩ := pl
  exact ⟨o, Heap.get?_push_of_some _ e, hcl, n, hd⟩
theorem all_range (bs : List Bool) : (List.range bs.length).all (fun i => bs.getD i false) = bs.all id := by
  rw [Bool.eq_iff_iff]
  simp only [List.all_eq_true, List.mem_range, id]
  constructor
  · intro h b hb
    obtain ⟨i, hi, rfl⟩ := List.mem_iff_getElem.mp hb
    have := h i hi
    rw [List.getD_eq_getElem?_getD, List.getElem?_eq_getElem hi] at this
    exact this
  · intro h i hi
    rw [List.getD_eq_getElem?_getD, List.getElem?_eq_getElem hi]
    exact h _ (List.getElem_mem hi)
def u_any : List D → (D → Prop) → Prop := fun ds P => match ds with | [.lst xs] => ∃ bs, blsD xs = some bs ∧ P (.bl (bs.any id)) | _ => False
def u_all : List D → (D → Prop) → Prop := fun ds P => match ds with | [.lst xs] => ∃ bs, blsD xs = some bs ∧ P (.bl (bs.all id)) | _ => False
theorem bls_at {bs : List Bool} {its : List Value} (rv : Vals (bs.map .bl) its) {i : Nat} {v : Value} (hv : its.toArray[i]? = some v) : v = .bool (bs.getD i false) := by
  have hl := rv.length
  rw [List.length_map] at hl
  have hv' : its[i]? = some v := by simpa using hv
  have hi : i < bs.length := by
    have := (List.getElem?_eq_some_iff.mp hv').1
    omega
  obtain ⟨u, hu, ru⟩ := rv.get (i := i) (x := .bl (bs.getD i false)) (by rw [List.getElem?_map, List.getD_eq_getElem?_getD, List.getElem?_eq_getElem hi]; rfl)
  rw [hv'] at hu; cases hu
  exact ru
theorem q_all (hc : X.calm = true) : CallR X (.builtin "all") (rUpA X.K u_all) := by
  rintro pins s σ H xs us Q I r ⟨F, ds, P, sF, rs, h, k⟩
  unfold u_all at h
  split at h
  · unfold Reps Reps Rep at rs
    obtain ⟨v, _, rfl, ⟨p, vs, rfl, hq, rs⟩, rfl⟩ := rs
    obtain ⟨bs, hbs, h⟩ := h
    obtain rfl := bls_vals rs hbs
    obtain ⟨u, rfl, rx⟩ := vals1 r
    cases rx
    obtain ⟨its, rv, pl, hz⟩ := I.list (sF.seq hq)
    have hl := rv.length
    rw [List.length_map] at hl
    refine call_all_walk (wpAny_pyIter_list pl.isList ?_)
    have plt : p < s.heap.objs.size := by obtain ⟨o, n, e, _⟩ := pl; exact Heap.lt_size e
    refine ⟨s.heap.objs.size, _, _, _, _, _, fun i => bs.getD i false, rfl, Walks.list (toI (I.ok.hd hc)) s.heap.objs.size p (Nat.ne_of_lt plt) its.toArray, lw_start pl, fun i v s' Q' E' hv hQ => ?_, fun h' tk kp => ?_⟩
    · rw [bls_at rv hv]
      exact wpAny_truthy_bool hQ
    · rw [show its.toArray.size = bs.length by simp [hl], all_range]
      refine ep_after (s := s) (v := .bl (bs.all id)) I (fun b o e => kp b o (fun z => ?_) (Heap.get?_push_of_some _ e)) rfl (k _ _ F H (Gr.refl sF) (by unfold Rep; rfl) h)
      rcases List.mem_cons.mp z with rfl | z
      · exact absurd (Heap.lt_size e) (Nat.lt_irrefl _)
      · cases z
  · exact h.elim
def u_maxL : List D → (D → Prop) → Prop := fun ds P => match ds with | [.lst xs] => ∃ ns m, intsD xs = some ns ∧ m ∈ ns ∧ (∀ i ∈ ns, i ≤ m) ∧ P (.int m) | _ => False
def u_minL : List D → (D → Prop) → Prop := fun ds P => match ds with | [.lst xs] => ∃ ns m, intsD xs = some ns ∧ m ∈ ns ∧ (∀ i ∈ ns, m ≤ i) ∧ P (.int m) | _ => False
end
end L3

namespace L3
open PySem PySem.Spec PyProof.Rows L2

def frzS : Slot → Slot | .ow ds => .pu (.lst ds) | .tr _ t => .pu (toD t) | s => s
def frzG (Γ : G2) : G2 := Γ.map frzS
def OwnA (Γ : G2) (σ : St) (b : Addr) : Prop := ∃ j, OwnAt Γ σ j b
open Classical in
theorem sr_peek2 {K : PySem.W.Frag} {F0 H0 F H : Hp} {σ : St} {Γ : G2} (R : SR K F0 H0 F H σ Γ) : ∃ F1, Same F F1 ∧ SR K F1 H F1 H σ (frzG Γ) ∧ (∀ b, F b = none → ¬ OwnA Γ σ b → F1 b = none) ∧ ∀ b, OwnA Γ σ b → F b = none ∧ ∃ u, F1 b = some u ∧ LD u := by
  let F1 : Hp := fun b => if (F b).isSome then F b else if OwnA Γ σ b then H b else none
  have s1 : Same F F1 := fun b u e => by show (if _ then _ else _) = _; rw [if_pos (by rw [e]; rfl)]; exact e
  have s2 : Same F1 H := fun b u e => by
    have e' : (if (F b).isSome then F b else if OwnA Γ σ b then H b else none) = some u := e
    split at e'
    · exact R.g b u e'
    · split at e'
      · exact e'
      · cases e'
  have at1 : ∀ b u, F b = none → OwnA Γ σ b → H b = some u → F1 b = some u := fun b u h1 h2 h3 => by
    show (if (F b).isSome then F b else if OwnA Γ σ b then H b else none) = _
    rw [if_neg (by rw [h1]; exact Bool.false_ne_true), if_pos h2]
    exact h3
  have noow : ∀ (i : Nat) s o a, (frzG Γ)[i]? = some s → ¬ Own1 s o a := fun i s o a e => by
    unfold frzG at e
    rw [List.getElem?_map] at e
    cases q : Γ[i]? with
    | none => rw [q] at e; cases e
    | some t =>
      rw [q] at e
      cases t <;> (cases e; exact fun h => h)
  have own : ∀ b, OwnA Γ σ b → F b = none ∧ ∃ u, F1 b = some u ∧ LD u := fun b hb => by
    obtain ⟨j, s, o, e1, e2, hs⟩ := id hb
    obtain ⟨o', e3, r⟩ := R.sl j _ e1
    rw [e2] at e3; cases e3
    obtain ⟨h1, _, u, h2, ld⟩ := own1_of r hs
    exact ⟨h1, u, at1 _ _ h1 hb h2, ld⟩
  refine ⟨F1, s1, ⟨Gr.refl s2, by rw [frzG, List.length_map]; exact R.len, fun i s e => ?_, fun i j a ⟨s, o, e, _, h⟩ => absurd h (noow i s o a e)⟩, fun b hb hn => ?_, own⟩
  · unfold frzG at e
    rw [List.getElem?_map] at e
    cases q : Γ[i]? with
    | none => rw [q] at e; cases e
    | some sl =>
      rw [q] at e
      obtain ⟨o, e1, r⟩ := R.sl i sl q
      refine ⟨o, e1, ?_⟩
      have mine : ∀ b u, Own1 sl o b → H b = some u → F1 b = some u := fun b u hb hu => at1 b u (own1_of r hb).1 ⟨i, sl, o, q, e1, hb⟩ hu
      cases sl with
      | no => cases e; trivial
      | pu d => cases e; obtain ⟨v, rfl, rv⟩ := r; exact ⟨v, rfl, rv.up s1⟩
      | ow ds =>
        cases e
        obtain ⟨a, vs, rfl, h1, h2, h3, rs⟩ := r
        refine ⟨.ref a, rfl, ?_⟩
        unfold Rep
        exact ⟨a, vs, rfl, .inl (.inl (mine a _ rfl h1)), rs.up s1⟩
      | tr as t =>
        cases e
        obtain ⟨v, rfl, nd, h1, rv⟩ := r
        exact ⟨v, rfl, TR.rep s1 t v as (fun a ha u hu => mine a u ha hu) rv⟩
  · show (if (F b).isSome then F b else if OwnA Γ σ b then H b else none) = none
    rw [if_neg (by rw [hb]; exact Bool.false_ne_true), if_neg hn]
theorem sr_peek {K : PySem.W.Frag} {F0 H0 F H : Hp} {σ : St} {Γ : G2} (R : SR K F0 H0 F H σ Γ) : ∃ F1, Same F F1 ∧ SR K F1 H F1 H σ (frzG Γ) := by
  obtain ⟨F1, s1, R1, _⟩ := sr_peek2 R
  exact ⟨F1, s1, R1⟩
theorem sr_unpeek {K : PySem.W.Frag} {F0 H0 F H H' : Hp} {σ : St} {Γ : G2} (R : SR K F0 H0 F H σ Γ) (s : Same H H') : SR K F0 H0 F H' σ Γ := by
  refine R.grow ⟨.refl _, fun b u e => s b u (R.g b u e), s, fun b o e n => by rw [e] at n; cases n⟩
def scD : D → Prop | .non => True | .bl _ => True | .int _ => True | .str _ => True | _ => False
theorem sc_rep {K : PySem.W.Frag} {F F' : Hp} {d : D} {v : V} (h : scD d) (r : Rep K F d v) : Rep K F' d v := by
  cases d with
  | non => unfold Rep at r ⊢; exact r
  | bl => unfold Rep at r ⊢; exact r
  | int => unfold Rep at r ⊢; exact r
  | str => unfold Rep at r ⊢; exact r
  | _ => exact h.elim
def cPeek (te : TE2) : TE2 := fun Γ P _ => te (frzG Γ) (fun d _ => scD d ∧ P d Γ) noX
def cPeekT (t : TT2) : TT2 := fun Γ P _ => t (frzG Γ) (fun b _ => P b Γ) noX
section
variable {X : Cx} {F0 H0 : Hp} {e : Expr} {te : TE2} {tt : TT2}
theorem ctx_peek {E : XW} {F1 H1 : Hp} (cx : Ctx X F0 H0 E) : Ctx X F1 H1 noX :=
  ⟨fun _ _ _ _ _ _ _ _ _ _ h => by obtain ⟨_, _, _, _, _, _, _, _, _, _, _, _, _, _, _, _, h, _⟩ := h; exact h.elim, cx.po⟩
theorem qe_peek (h : ∀ F0 H0, QE X F0 H0 e te) : QE X F0 H0 e (cPeek te) := fun z E cx => by
  rintro pins s σ H Q I ⟨F, Γ, P, R, q, k⟩
  obtain ⟨F1, s1, R1⟩ := sr_peek R
  exact h F1 H z noX (ctx_peek cx) pins s σ H Q I ⟨F1, frzG Γ, _, R1, q, fun d Γ' F' H' v R' s' r hp => k d Γ F H' v (sr_unpeek R R'.gr.h) (.refl _) (sc_rep hp.1 r) hp.2⟩
theorem qt_peek (h : ∀ F0 H0, QT X F0 H0 e tt) : QT X F0 H0 e (cPeekT tt) := fun z E cx => by
  rintro pins s σ H Q I ⟨F, Γ, P, R, q, k⟩
  obtain ⟨F1, s1, R1⟩ := sr_peek R
  exact h F1 H z noX (ctx_peek cx) pins s σ H Q I ⟨F1, frzG Γ, _, R1, q, fun b Γ' F' H' R' s' hp => k b Γ F H' (sr_unpeek R R'.gr.h) (.refl _) hp⟩
def cIxO (i : Nat) (te : TE2) : TE2 := fun Γ P E => (∃ xs, Γ[i]? = some (.ow xs)) ∧ te Γ (fun k Γ1 => match k, Γ1[i]? with | .int k, some (.ow ds) => ∃ d, atI ds k = some d ∧ P d Γ1 | _, _ => False) E
end

def OwR (X : Cx) (id : String) (g : List D → List D → (List D → Prop) → Prop) : Prop :=
  ∀ (pins : List (Addr × Obj)) (s : Shared) (σ : St) (F H : Hp) (l : Addr) (vs args : List V) (xs ds : List D) (us : List Value) (P : List D → Prop) (Q : VK), Inv X pins σ H s → H l = some (.lst vs) → Same F H → Reps X.K F xs vs → Reps X.K F ds args → Vals args us → g xs ds P →
    (∀ ys ws, Reps X.K F ys ws → P ys → Q .non (upd H l (.lst ws))) → wpAny (model X.prog X.w) X.A (call (.builtin id) (.ref l :: us)) (EP X pins σ Q) X.xe s
def w_append : List D → List D → (List D → Prop) → Prop := fun xs ds P => match ds with | [d] => xs.length < sizeLine ∧ P (xs ++ [d]) | _ => False
def insD (xs : List D) (k : Nat) (d : D) : List D := xs.take k ++ d :: xs.drop k
def w_insert : List D → List D → (List D → Prop) → Prop := fun xs ds P => match ds with | [.int k, d] => 0 ≤ k ∧ k ≤ xs.length ∧ xs.length < sizeLine ∧ P (insD xs k.toNat d) | _ => False
def w_extend : List D → List D → (List D → Prop) → Prop := fun xs ds P => match ds with | [.lst ys] => xs.length + ys.length ≤ sizeLine ∧ P (xs ++ ys) | _ => False
def w_reverse : List D → List D → (List D → Prop) → Prop := fun xs ds P => match ds with | [] => P xs.reverse | _ => False
def w_clear : List D → List D → (List D → Prop) → Prop := fun xs ds P => match ds with | [] => P [] | _ => False
section
variable {X : Cx}
theorem ow_append : OwR X "list.append" w_append := by
  intro pins s σ F H l vs args xs ds us P Q I hl sF rs ra rv h k
  unfold w_append at h
  split at h
  · unfold Reps Reps at ra
    obtain ⟨v, _, rfl, rd, rfl⟩ := ra
    exact mt_append pins s σ H (.ref l) [v] (.ref l) us Q I rfl rv ⟨l, vs, v, rfl, rfl, hl, by rw [← reps_len rs]; exact h.1, k _ _ (reps_app rs (reps_one rd)) h.2⟩
  · exact h.elim
end
section
variable {X : Cx} {F0 H0 : Hp} {x name : Str} {apos cpos npos pos : Pos} {e : Expr} {es : List Expr} {id : String} {i : Nat} {t : TF2} {g : List D → List D → (List D → Prop) → Prop}
def cOw (i : Nat) (g : List D → List D → (List D → Prop) → Prop) (t : TF2) : TS2 := fun D Γ E => (∃ xs, Γ[i]? = some (.ow xs)) ∧ t Γ (fun ds Γ1 => match Γ1[i]? with | some (.ow xs) => g xs ds fun ys => D.nx (Γ1.set i (.ow ys)) | _ => False) E
theorem own_step {z : Wsh} {σ : St} {F Fa H Ha : Hp} {Γ Γ1 : G2} {xs : List D} {a : Addr} {D2 : End2} {Dn : Ends} {vs args : List V} {ds : List D} (_R : SR X.K F0 H0 F H σ Γ) (R1 : SR X.K F0 H0 Fa Ha σ Γ1) (s1 : Same F Fa) (k : EndR X.K F0 H0 F D2 Dn) (e1 : σ[i]? = some (some (.ref a)))
    (q : match Γ1[i]? with | some (.ow xs) => g xs ds fun ys => D2.nx (Γ1.set i (.ow ys)) | _ => False) :
    ∃ vs xs P, Ha a = some (.lst vs) ∧ Reps X.K Fa xs vs ∧ g xs ds P ∧ ∀ ys ws, Reps X.K Fa ys ws → P ys → Dn.nx σ (upd Ha a (.lst ws)) := by
  split at q
  · rename_i xs e
    obtain ⟨o, e2, a', vs, rfl, g1, g2, g3, r⟩ := R1.sl i _ e
    rw [e1] at e2; cases e2
    exact ⟨vs, xs, _, g1, r, q, fun ys ws rw' hp => k.nx _ _ _ _ (R1.wr e e1 rw') s1 hp⟩
  · exact q.elim
theorem qs_own (hr : ∀ z, OwR (X.wsh z) id g) (slot : PySem.Slot "list" name id) (hty : typeOf (.builtin id) = pure (.type "method_descriptor")) (hN : X.N[i]? = some x) (hv : Vis X.env.scope x) (ha : QA X F0 H0 (e :: es) t)
    (hd : (x == ("__debug__" : Str)) = false := by decide) (hcd : (x == ("__classdict__" : Str)) = false := by decide)
    (hbase : attributeBase (.Name x npos) name X.env (eval (.Name x npos) X.env) = eval (.Name x npos) X.env := by rfl)
    (hfew : ((backTo cpos (starEach (e :: es) X.env)).all (fun x => !x.1) && (backToKw cpos (keywordEach [] X.env)).all (fun x => x.1.isSome)
      && decide ((e :: es).length + ([] : List Keyword).length + (if ([] : List Keyword).isEmpty then 0 else 1) < 30)) = true := by rfl)
    (hline : (apos.endLine == cpos.line) = true := by rfl) (hs : starEach (e :: es) X.env = (false, eval e X.env) :: starEach es X.env := by rfl) (hplain : (backTo cpos (starEach es X.env)).any (·.1) = false := by rfl)
    (hsw : swapsWith (.Call (.Attribute (.Name x npos) name apos) (e :: es) [] cpos) none pos.line X.env = pure false := by rfl) :
    QS X F0 H0 (.Expr (.Call (.Attribute (.Name x npos) name apos) (e :: es) [] cpos) pos) (cOw i g t) := by
  intro z E cx
  refine psC (ps_expr (X := X.wsh z) (te := fun σ H Q => tVar i σ H fun v H1 => tyV X.K "list" v H1 ∧ upA X.K F0 H0 t E σ H1 fun vs H2 => ∃ l xs ws F Pd ds, v = .ref l ∧ H2 l = some (.lst ws) ∧ Same F H2 ∧ Reps X.K F xs ws ∧ Reps X.K F ds vs ∧ g xs ds Pd ∧ ∀ ys us, Reps X.K F ys us → Pd ys → Q .non (upd H2 l (.lst us))) ?_ hsw) ?_
  · refine pe_bm (X := X.wsh z) (T := "list") (id := id) (r := fun v vs H2 Q => ∃ l xs ws F Pd ds, v = .ref l ∧ H2 l = some (.lst ws) ∧ Same F H2 ∧ Reps X.K F xs ws ∧ Reps X.K F ds vs ∧ g xs ds Pd ∧ ∀ ys us, Reps X.K F ys us → Pd ys → Q .non (upd H2 l (.lst us)))
      PySem.F.plainAttrs_list slot hty ?_ (pe_var (X := X.wsh z) (i := i) hN hv hd hcd) (ha z E cx) hbase hfew hline hs hplain
    rintro pins s σ H x xs v us Q I rx rs ⟨l, ys, ws, Fz, Pd, ds, e1, h1, h2, h3, h4, h5, h6⟩
    subst e1
    cases rx
    exact hr z pins s σ Fz H l ws xs ys ds us Pd Q I h1 h2 h3 h4 rs h5 h6
  · rintro Dn σ H ⟨F, Γ, D2, R, ⟨⟨xs, e0⟩, h⟩, k⟩
    obtain ⟨o, e1, a, vs, rfl, h1, h2, h3, r⟩ := R.sl i _ e0
    refine ⟨.ref a, e1, .inl ⟨rfl, vs, .inl (.inl h1)⟩, F, Γ, _, R, h, fun ds Γ1 F1 H1 us R1 s1 r1 q1 => ?_⟩
    obtain ⟨ws, ys, P, g1, g2, g3, g4⟩ := own_step (z := z) (vs := vs) (args := us) (xs := xs) R R1 s1 k e1 q1
    exact ⟨a, ys, ws, F1, P, ds, rfl, g1, R1.g, g2, r1, g3, g4⟩
end
end L3

namespace L3
open PySem PySem.Spec PyProof.Rows L2
section
variable {X : Cx} {F0 H0 : Hp} {st : Stmt} {i : Nat} {t : TF2}
theorem qs_frz (h : QS X F0 H0 st (cSetF i t)) : QS X F0 H0 st (cSet i (cOf t)) := fun z E cx =>
  psC (h z E cx) fun Dn σ H hq1 => by
    obtain ⟨F, Γ, D2, R, q, k⟩ := hq1
    have key : (fun (ds : List D) (Γ1 : G2) => (match (Γ1.set i (.ow ds))[i]? with | some (.ow ds') => D2.nx ((Γ1.set i (.ow ds)).set i (.pu (.lst ds'))) | _ => D2.nx (Γ1.set i (.ow ds)))) = fun ds Γ1 => D2.nx (Γ1.set i (.pu (.lst ds))) := by
      funext ds Γ1
      by_cases hi : i < Γ1.length
      · rw [List.getElem?_set_self hi]
        dsimp only
        rw [List.set_set]
      · rw [List.getElem?_eq_none (by simpa using hi)]
        dsimp only
        rw [List.set_eq_of_length_le (by omega), List.set_eq_of_length_le (by omega)]
    refine ⟨F, Γ, { D2 with nx := fun Γ' => match Γ'[i]? with | some (.ow ds) => D2.nx (Γ'.set i (.pu (.lst ds))) | _ => D2.nx Γ' }, R, ?_, ⟨fun Γ' F' H' σ' R' s' q' => ?_, k.bk, k.ct, k.rt, k.rf, k.rT, k.rm⟩⟩
    · show t Γ _ E
      dsimp only
      rw [key]
      exact q
    · dsimp only at q'
      split at q'
      · rename_i ds e
        obtain ⟨a, F2, _, s2, R2, _⟩ := R'.frz e
        exact k.nx _ _ _ _ R2 (s'.trans s2) q'
      · exact k.nx _ _ _ _ R' s' q'
end
def fCat (t u : TE2) : TF2 := fun Γ P E => t Γ (fun d Γ1 => u Γ1 (fun d' Γ2 => match d, d' with | .lst xs, .lst ys => xs.length + ys.length ≤ sizeLine ∧ P (xs ++ ys) Γ2 | _, _ => False) E) E
section
variable {X : Cx} {F0 H0 : Hp} {a b c : Expr} {pos : Pos} {ta tb tc : TE2}
theorem cat_lists {M : Program} {w : World} {A : Around} {E : Value → Shared → Prop} {s : Shared} {l b : Addr} {vs ws : List Value} {Q : Value → Shared → Prop} (hl : s.heap.IsList l vs.toArray) (hb : s.heap.IsList b ws.toArray)
    (h : Q (.ref s.heap.objs.size) { s with heap := s.heap.push { cls := .type "list", data := .seq (vs ++ ws).toArray } }) (hsz : vs.length + ws.length ≤ sizeLine) : wpAny (model M w) A (binaryOp .Add (.ref l) (.ref b)) Q E s := by
  obtain ⟨⟨cls, dd, data, sl⟩, ho, hc, n, hd⟩ := id hl
  obtain ⟨⟨cls2, dd2, data2, sl2⟩, ho2, hc2, n2, hd2⟩ := id hb
  simp only at hc hd hc2 hd2
  subst hc hd hc2 hd2
  have e : vs.toArray ++ ws.toArray = (vs ++ ws).toArray := by simp
  refine concat_meets ⟨_, ho, rfl⟩ ⟨_, ho2, rfl⟩ noFill_list_add seq_list_add PySem.F.slot_list_add PySem.F.entry_list_add (PySem.F.args_list_add_2 _ _) (list_addW l b vs.toArray ws.toArray n n2 dd dd2 sl sl2 (by simpa using hsz)) ⟨ho, ho2, ?_⟩
  rw [e]
  exact h
theorem qf_cat (ha : QE X F0 H0 a ta) (hb : QE X F0 H0 b tb) : QF X F0 H0 (.BinOp a .Add b pos) (fCat ta tb) := fun z E cx =>
  peC (pe_op (X := X.wsh z) (r := fun x y H Q => ∃ p q xs ys, x = .ref p ∧ y = .ref q ∧ SqL X.K H p xs ∧ SqL X.K H q ys ∧ xs.length + ys.length ≤ sizeLine ∧ ∀ l, H l = none → Q (.ref l) (upd H l (.lst (xs ++ ys)))) (by
    rintro pins s σ H x y v u Q I rx ry ⟨p, q, xs, ys, e1, e2, h1, h2, hz, k⟩
    subst e1 e2
    cases rx; cases ry
    obtain ⟨its, r, pl, _⟩ := I.list h1
    obtain ⟨its2, r2, pl2, _⟩ := I.list h2
    have l1 := r.length
    have l2 := r2.length
    refine cat_lists pl.isList pl2.isList ?_ (by omega)
    exact ⟨.ref _, _, I.lnew (t' := s.toks) (r.append r2) (by rw [List.length_append]; omega), rfl, k _ I.fresh⟩) (ha z E cx) (hb z E cx)) fun σ H Q hq2 => by obtain ⟨F, Γ, P, R, h, k⟩ := hq2; exact ⟨F, Γ, _, R, h, fun d1 Γ1 F1 H1 v1 R1 s1 r1 h1 => ⟨F1, Γ1, _, R1, h1, fun d2 Γ2 F2 H2 v2 R2 s2 r2 h2 => by
      cases d1 with
      | lst xs =>
        cases d2 with
        | lst ys =>
          have r1' := r1.up s2
          unfold Rep at r1' r2
          obtain ⟨p, vs, rfl, hq, rs⟩ := r1'
          obtain ⟨q, ws, rfl, hq2, rs2⟩ := r2
          refine ⟨p, q, vs, ws, rfl, rfl, R2.g.seq hq, R2.g.seq hq2, by rw [← reps_len rs, ← reps_len rs2]; exact h2.1, fun l hl => ?_⟩
          have ra := reps_app rs rs2
          obtain ⟨R3, e1, e2, e3, ap⟩ := new_lst R2 hl ra
          exact k _ Γ2 F2 _ l _ R3 (s1.trans s2) e1 e2 e3 ra ap h2.2
        | _ => exact False.elim h2
      | _ => exact False.elim h2⟩⟩
def flD : D → Bool | .non => true | .bl _ => true | .int _ => true | .str _ => true | _ => false
def eqD : D → D → Bool
  | .non, .non => true
  | .bl a, .bl b => a == b
  | .bl a, .int b => (if a then 1 else 0) == b
  | .int a, .bl b => a == (if b then 1 else 0)
  | .int a, .int b => a == b
  | .str a, .str b => a == b
  | _, _ => false
def inD (x : D) (xs : List D) : Bool := xs.any fun y => eqD y x
def gIn (neg : Bool) : D → D → (D → Prop) → Prop := fun x y P => match y with
  | .lst xs => flD x = true ∧ xs.all flD = true ∧ P (.bl (if neg then !inD x xs else inD x xs))
  | .tup xs => flD x = true ∧ xs.all flD = true ∧ P (.bl (if neg then !inD x xs else inD x xs))
  | _ => False
def cChain (g g' : D → D → (D → Prop) → Prop) (ta tb tc : TE2) : TE2 := fun Γ P E => ta Γ (fun x Γ1 => tb Γ1 (fun y Γ2 => g x y fun r => match r with
  | .bl k => if k = true then tc Γ2 (fun w Γ3 => g' y w fun d => P d Γ3) E else P (.bl false) Γ2
  | _ => False) E) E
theorem cChain_up {K : PySem.W.Frag} {g g' : D → D → (D → Prop) → Prop} {E : XW} {σ : St} {H : Hp} {Q : VK} (h : upE K F0 H0 (cChain g g' ta tb tc) E σ H Q) : tChain (rUp K g) (rUp K g') (upE K F0 H0 ta E) (upE K F0 H0 tb E) (upE K F0 H0 tc E) σ H Q := by
  obtain ⟨F, Γ, P, R, h, k⟩ := h
  refine ⟨F, Γ, _, R, h, fun x Γ1 F1 H1 v1 R1 s1 r1 h1 => ⟨F1, Γ1, _, R1, h1, fun y Γ2 F2 H2 v2 R2 s2 r2 h2 => ⟨F2, x, y, _, R2.g, r1.up s2, r2, h2, fun d z F' H' gr rz hp => ?_⟩⟩⟩
  cases d with
  | bl b =>
    unfold Rep at rz
    refine ⟨b, rz, ?_⟩
    have R3 := R2.grow gr
    cases b with
    | true =>
      rw [if_pos rfl]
      have hp' : tc Γ2 (fun w Γ3 => g' y w fun d => P d Γ3) E := hp
      exact ⟨F', Γ2, _, R3, hp', fun w Γ3 F3 H3 v3 R4 s4 r4 h4 => ⟨F3, y, w, _, R4.g, r2.up (gr.f.trans s4), r4, h4, fun d z F5 H5 gr5 rz5 hp5 => k d Γ3 F5 H5 z (R4.grow gr5) (s1.trans (s2.trans (gr.f.trans (s4.trans gr5.f)))) rz5 hp5⟩⟩
    | false =>
      rw [if_neg Bool.false_ne_true]
      have hp' : P (.bl false) Γ2 := hp
      exact k _ Γ2 F' H' _ R3 (s1.trans (s2.trans gr.f)) (by unfold Rep; rfl) hp'
  | _ => exact False.elim hp
theorem qe_chain {op op' : CmpOp} {g g' : D → D → (D → Prop) → Prop} (ho : ∀ z, OpR (X.wsh z) (compareOp op) (rUp X.K g)) (ho' : ∀ z, OpR (X.wsh z) (compareOp op') (rUp X.K g')) (ha : QE X F0 H0 a ta) (hb : QE X F0 H0 b tb) (hc : QE X F0 H0 c tc)
    (hm : lastMarks [op, op'] [b, c] = false := by with_unfolding_all rfl) : QE X F0 H0 (.Compare a [op, op'] [b, c] pos) (cChain g g' ta tb tc) := fun z E cx =>
  peC (pe_chain (ho z) (ho' z) (ha z E cx) (hb z E cx) (hc z E cx) hm) fun _ _ _ h => cChain_up h
theorem qt_chain {op op' : CmpOp} {g g' : D → D → (D → Prop) → Prop} (ho : ∀ z, OpR (X.wsh z) (compareOp op) (rUp X.K g)) (ho' : ∀ z, OpR (X.wsh z) (compareOp op') (rUp X.K g')) (ha : QE X F0 H0 a ta) (hb : QE X F0 H0 b tb) (hc : QE X F0 H0 c tc)
    (hm : lastMarks [op, op'] [b, c] = false := by with_unfolding_all rfl) : QT X F0 H0 (.Compare a [op, op'] [b, c] pos) (cT (cChain g g' ta tb tc)) := fun z E cx =>
  ptC (pt_chain (ho z) (ho' z) (ha z E cx) (hb z E cx) (hc z E cx) hm) fun σ H Q h => cChain_up (cT_up h)
end
section
variable {X : Cx} {F0 H0 : Hp} {tg a b : Expr} {t : TF2} {p pc : Pos}
theorem itd_rng {K : PySem.W.Frag} {F Hx : Hp} {lo : Int} {n : Nat} (hn : n ≤ sizeLine) : ItD K F Hx (Itr lo n) ((List.range n).map fun (k : Nat) => .int (lo + k)) := by
  refine ⟨by simpa using hn, fun i H1 F1 s1 s2 s3 => ⟨fun e => by simp at e; exact Nat.le_of_eq e.symm, fun d hd => ?_⟩⟩
  rw [List.getElem?_map] at hd
  cases q : (List.range n)[i]? with
  | none => rw [q] at hd; cases hd
  | some k =>
    rw [q] at hd
    obtain ⟨hi, e⟩ := List.getElem?_eq_some_iff.mp q
    rw [List.getElem_range] at e
    subst e
    cases hd
    refine ⟨(by simpa using hi : i < n), fun x H' y => ?_⟩
    obtain ⟨rfl, rfl⟩ := y
    exact ⟨F1, Gr.refl s2, by unfold Rep; rfl⟩
def iRg1 (t : TF2) : TF2 := fun Γ P E => t Γ (fun ds Γ1 => match ds with | [.int j] => (-(2 ^ 62) ≤ j ∧ j < 2 ^ 62) ∧ j.toNat ≤ sizeLine ∧ P ((List.range j.toNat).map fun (k : Nat) => .int (0 + k)) Γ1 | _ => False) E
def iRg2 (t : TF2) : TF2 := fun Γ P E => t Γ (fun ds Γ1 => match ds with | [.int i, .int j] => (-(2 ^ 62) ≤ i ∧ i < 2 ^ 62 ∧ -(2 ^ 62) ≤ j ∧ j < 2 ^ 62) ∧ (j - i).toNat ≤ sizeLine ∧ P ((List.range (j - i).toNat).map fun (k : Nat) => .int (i + k)) Γ1 | _ => False) E
theorem qi_rng1 (hgl : Gl X "range") (hm : X.mg "range" = none) (ha : QA X F0 H0 [a] t) (hst : starEach [a] X.env = [(false, eval a X.env)] := by rfl) : QI X F0 H0 tg (.Call (.Name "range" p) [a] [] pc) (iRg1 t) := fun z E cx =>
  piC (pi_range1 (X := X.wsh z) hgl hm (ha z E cx) hst) fun σ H R hq3 => by obtain ⟨F, Γ, P, S, h, k⟩ := hq3; exact ⟨F, Γ, _, S, h, fun ds Γ1 F1 H1 vs R1 s1 r1 h1 => by
    split at h1
    · rename_i j
      unfold Reps Reps Rep at r1
      obtain ⟨v, _, rfl, rfl, rfl⟩ := r1
      exact ⟨j, rfl, h1.1.1, h1.1.2, k _ Γ1 F1 H1 _ R1 s1 (itd_rng h1.2.1) h1.2.2⟩
    · exact False.elim h1⟩
end
def relabelS (sc osc : Scope) : Scope := { sc with names := sc.names.map fun (n, k) => if (k == .free && osc.kind == .function && osc.names.lookup n == some .cell) then (n, .cell) else (n, k) }
end L3

namespace L3
open PySem PySem.Spec PyProof.Rows L2

section
variable {X : Cx} {F0 H0 : Hp} {x : Str} {pos : Pos} {d : D}
def Glb (K : PySem.W.Frag) (mg : Str → Option Value) (x : Str) (d : D) : Prop := ∃ v u, mg x = some u ∧ RelV v u ∧ ∀ F, Rep K F d v
theorem qe_glb (hg : Gl X x) (h : Glb X.K X.mg x d) (hd : (x == ("__debug__" : Str)) = false := by decide) : QE X F0 H0 (.Name x pos) (cC d) := by
  obtain ⟨v, u, hm, r, rp⟩ := h
  exact qe_const (fun z => pe_glob (X := X.wsh z) hg hm r hd) rp
end

structure FunD (K : PySem.W.Frag) (x qual : Str) (st : Stmt) (f : Addr) (fd : FuncData) (dV : Value) : Prop where
  ex : ∃ (oc : Value) (od : Option Addr) (kV doc pm : Value) (an : Option Addr) (cdv ct : Value) (osl : Array (Option Value)),
    fd = PySem.W.fnOf x qual (defArgs st) (defBody st) (defScope st) dV kV doc pm an cdv ct ∧ K.lookup f = some ⟨oc, od, .func fd, osl⟩ ∧ PySem.W.codeIn K cdv qual = true
  kp : PySem.W.keepIn K (.ref f) = true
section
variable {P : Program} {w : World} {K : PySem.W.Frag} {mg : Str → Option Value} {base : Heap}
structure Fn2N (P : Program) (w : World) (K : PySem.W.Frag) (mg : Str → Option Value) (base : Heap) (x : Str) (k : Nat) (ps : List Str) (sp : Sp2) : Prop where
  ex : ∃ f fd, FnOk P w K mg base (CX1 P w) k f fd ps (spUp K sp) ∧ mg x = some (.ref f) ∧ PySem.W.keepIn K (.ref f) = true ∧ Binds K fd ps [] ∧ Binds K fd ps [.none]
end
def cCallN (sp : Sp2) (t : TF2) : TE2 := fun Γ P E => t Γ (fun ds Γ1 => sp (ds ++ [.non]) (fun d => P d Γ1) fun C => E Γ1 C) E
section
variable {X : Cx} {F0 H0 : Hp} {e : Expr} {es : List Expr} {pos p : Pos} {x : Str} {ps : List Str} {k : Nat} {sp : Sp2} {t : TF2}
end

def VE (K : PySem.W.Frag) (C : Addr) : Prop := PySem.W.kitOne K (.ref C) (.type "ValueError") = some true
theorem ve_of {K : PySem.W.Frag} {C : Addr} (h : PySem.W.mroIn K C (.type "ValueError") = some true) : VE K C := by
  unfold VE PySem.W.kitOne
  rw [if_neg (by simp)]
  unfold PySem.W.kitCls
  dsimp only
  rw [if_pos (by decide +kernel)]
  exact h
def cIsv (K : PySem.W.Frag) (ta : TE2) : TE2 := fun Γ P E => ta Γ (fun d Γ1 => match d with | .exc C0 => (ExcK K C0 ∧ ExcG K C0 ∧ VE K C0) ∧ P (.bl true) Γ1 | _ => False) E
def cIst (K : PySem.W.Frag) (Cs : List Addr) (ta : TE2) : TE2 := fun Γ P E => ta Γ (fun d Γ1 => match d with | .exc C0 => (ExcK K C0 ∧ ExcG K C0) ∧ P (.bl (Cs.any fun C => excSub K C0 C)) Γ1 | _ => False) E
theorem kit_any {K : PySem.W.Frag} {C : Addr} (q : ExcK K C) : ∀ {Cs : List Addr}, (∀ D ∈ Cs, clsB K D = true) → PySem.W.kitAny K (.ref C) (Cs.map .ref) = some (Cs.any fun D => excSub K C D)
  | [], _ => rfl
  | D :: Cs, h => by
    rw [List.map_cons]
    unfold PySem.W.kitAny
    rw [kit_exc q (h D List.mem_cons_self), List.any_cons]
    cases e : excSub K C D with
    | true => rfl
    | false => simp only [Bool.false_or]; exact kit_any q fun B hB => h B (List.mem_cons_of_mem _ hB)
def PCl (X : Cx) (es : List Expr) (Cs : List Addr) : Prop := ∀ z, PA (X.wsh z) es fun _ H Q => Q (Cs.map V.ref) H
section
variable {X : Cx} {F0 H0 : Hp} {a : Expr} {pos p pt : Pos} {ta : TE2} {x : Str} {C : Addr} {es : List Expr} {Cs : List Addr}
theorem pcl_nil : PCl X [] [] := fun z => paC pa_nil fun _ _ _ h => h
theorem pcl_cons (hgT : Gl X x) (hT : X.mg x = some (.ref C)) (h : PCl X es Cs) (hd : (x == ("__debug__" : Str)) = false := by decide) (hs : starEach (.Name x pt :: es) X.env = (false, eval (.Name x pt) X.env) :: starEach es X.env := by rfl) : PCl X (.Name x pt :: es) (C :: Cs) := fun z =>
  paC (pa_cons (X := X.wsh z) (pe_glob (X := X.wsh z) (v := .ref C) hgT hT rfl hd) (h z) hs) fun _ _ _ h => h
theorem qe_isv (ha : QE X F0 H0 a ta) (hg : Gl X "isinstance") (hm : X.mg "isinstance" = none) (hgT : Gl X "ValueError") (hmT : X.mg "ValueError" = none)
    (he : starEach [a, .Name "ValueError" pt] X.env = (false, eval a X.env) :: starEach [.Name "ValueError" pt] X.env := by rfl) (he2 : starEach [.Name "ValueError" pt] X.env = [(false, eval (.Name "ValueError" pt) X.env)] := by rfl) : QE X F0 H0 (.Call (.Name "isinstance" p) [a, .Name "ValueError" pt] [] pos) (cIsv X.K ta) := fun z E cx => by
  have pT : PE (X.wsh z) (.Name "ValueError" pt) (tC (.ty "ValueError")) := pe_bltn (X := X.wsh z) hgT hmT (by decide +kernel) rfl
  refine peC (pe_callB (X := X.wsh z) (id := "isinstance") (r := fun vs H Q => ∃ (F : Hp) (C0 : Addr) (x : V), vs = [x, .ty "ValueError"] ∧ Same F H ∧ Rep X.K F (.exc C0) x ∧ (ExcK X.K C0 ∧ ExcG X.K C0 ∧ VE X.K C0) ∧ Q (.bl true) H) ?_ hg hm boot_isinstance (pa_cons (ha z E cx) (pa_cons pT pa_nil (by rw [he2]; rfl)) he) (by decide) (by decide) he (by rw [he2]; rfl)) fun σ H Q ⟨F, Γ, P, R, h, k⟩ => ?_
  · rintro pins s σ H xs us Q I r ⟨F, C0, y, e1, sF, rd, hx, q⟩
    subst e1
    obtain ⟨u, w, rfl, ru, rw'⟩ := vals2 r
    obtain rfl : w = Value.type "ValueError" := rw'
    unfold Rep at rd
    obtain ⟨b, ob, rfl, eb⟩ := rd
    cases ru
    obtain ⟨_, ⟨o, vs, g1, g2, _⟩, _⟩ := I.hok b _ (sF _ _ eb)
    exact PySem.W.kia_one (kitx_exc hx.1 hx.2.1) I.kIn ⟨o, g1, g2⟩ hx.2.2 (fun z => nomatch z) fun tk => ⟨.bl _, H, I.tok tk, rfl, q⟩
  · refine ⟨F, Γ, _, R, h, fun d Γ1 F1 H1 v R1 s1 r1 h1 => ?_⟩
    cases d with
    | exc C0 => exact ⟨F1, C0, v, rfl, R1.g, r1, h1.1, k _ _ _ _ _ R1 s1 (by unfold Rep; rfl) h1.2⟩
    | _ => exact False.elim h1
theorem qe_ist {kt} (hT : PCl X es Cs) (hE : ∀ C ∈ Cs, clsB X.K C = true) (ha : QE X F0 H0 a ta) (hg : Gl X "isinstance") (hm : X.mg "isinstance" = none)
    (he : starEach [a, .Tuple es kt pt] X.env = (false, eval a X.env) :: starEach [.Tuple es kt pt] X.env := by rfl) (he2 : starEach [.Tuple es kt pt] X.env = [(false, eval (.Tuple es kt pt) X.env)] := by rfl) (hl : Cs.length ≤ sizeLine := by decide) :
    QE X F0 H0 (.Call (.Name "isinstance" p) [a, .Tuple es kt pt] [] pos) (cIst X.K Cs ta) := fun z E cx => by
  refine peC (pe_callB (X := X.wsh z) (id := "isinstance") (r := fun vs H Q => ∃ (F : Hp) (C0 t : Addr) (x : V) (P : Bool → Prop), vs = [x, .ref t] ∧ Same F H ∧ Rep X.K F (.exc C0) x ∧ H t = some (.tup (Cs.map .ref)) ∧ (ExcK X.K C0 ∧ ExcG X.K C0) ∧ P (Cs.any fun C => excSub X.K C0 C) ∧ ∀ b, P b → Q (.bl b) H) ?_ hg hm boot_isinstance
    (pa_cons (ha z E cx) (pa_cons (pe_tup (hT z)) pa_nil (by rw [he2]; rfl)) he) (by decide) (by decide) he (by rw [he2]; rfl)) fun σ H Q ⟨F, Γ, P, R, h, k⟩ => ?_
  · rintro pins s σ H xs us Q I r ⟨F, C0, t, y, P, e1, sF, rd, ht, hx, hb, k⟩
    subst e1
    obtain ⟨u, w, rfl, ru, rw'⟩ := vals2 r
    obtain rfl : w = Value.ref t := rw'
    unfold Rep at rd
    obtain ⟨b, ob, rfl, eb⟩ := rd
    cases ru
    obtain ⟨_, ⟨o, vs, g1, g2, _⟩, _⟩ := I.hok b _ (sF _ _ eb)
    obtain ⟨_, its, rv, ⟨ot, j1, j2, n, j3⟩⟩ := I.hok t _ ht
    have hits : its = Cs.map Value.ref := by
      have : ∀ {l : List Addr} {us : List Value}, Vals (l.map .ref) us → us = l.map Value.ref := by
        intro l
        induction l with
        | nil => intro us r; cases r; rfl
        | cons c l ih =>
          intro us r
          rw [List.map_cons] at r
          cases r with
          | cons r1 r2 => cases r1; rw [ih r2]; rfl
      exact this rv
    subst hits
    obtain ⟨oc, od, odt, osl⟩ := ot
    dsimp only at j2 j3
    subst j2 j3
    exact PySem.W.kia_tup (kitx_exc hx.1 hx.2) I.kIn ⟨o, g1, g2⟩ j1 (kit_any hx.1 hE) (fun z => nomatch z) fun tk => ⟨.bl _, H, I.tok tk, rfl, k _ hb⟩
  · refine ⟨F, Γ, _, R, h, fun d Γ1 F1 H1 v R1 s1 r1 h1 => ⟨by rw [List.length_map]; exact hl, fun t ht => ?_⟩⟩
    cases d with
    | exc C0 =>
      have gr := Gr.laid (o := HO.tup (Cs.map .ref)) R1.g ht
      refine ⟨_, C0, t, v, fun b => P (.bl b) Γ1, rfl, gr.g, r1.up gr.f, upd_same, h1.1, h1.2, fun b hp => k _ _ _ _ _ (R1.grow gr) (s1.trans gr.f) (by unfold Rep; rfl) hp⟩
    | _ => exact False.elim h1
end
end L3

namespace L3
open PySem PySem.Spec PyProof.Rows L2

def Ite (K : PySem.W.Frag) (a : Addr) : It :=
  ⟨fun i H => ∃ xs x, SqL K H a xs ∧ xs[i]? = some x, fun i H x H' => ∃ b v, x = .ref b ∧ H b = none ∧ H' = upd H b (.tup [.int i, v]) ∧ ∀ xs, SqL K H a xs → xs[i]? = some v, fun i H => ∃ xs, SqL K H a xs ∧ xs.length ≤ i⟩
def iEnum (K : PySem.W.Frag) (ta : TA) : TI := fun σ H R => ta σ H fun vs H1 => ∃ a xs, vs = [.ref a] ∧ SqL K H1 a xs ∧ (xs.length ≤ sizeLine → R (Ite K a) H1)
def enD : Nat → List D → List D
  | _, [] => []
  | k, x :: r => .tup [.int k, x] :: enD (k + 1) r
def i_enumerate (t : TF2) : TF2 := fun Γ P E => t Γ (fun ds Γ1 => match ds with | [.lst xs] => P (enD 0 xs) Γ1 | _ => False) E
section
variable {X : Cx} {F0 H0 : Hp} {a b e tg : Expr} {es : List Expr} {pos p pt : Pos} {te : TE2} {t : TF2} {g : TG2} {tb : TS2} {elts : List Expr}
end

def u_int : List D → (D → Prop) → Prop := fun ds P => match ds with | [.bl b] => P (.int (if b then 1 else 0)) | [.int i] => P (.int i) | _ => False
theorem q_int {X : Cx} : CallR X (.type "int") (rUpA X.K u_int) := by
  rintro pins s σ H xs us Q I r ⟨F, ds, P, sF, rs, h, k⟩
  unfold u_int at h
  split at h
  · unfold Reps Reps Rep at rs
    obtain ⟨v, _, rfl, rfl, rfl⟩ := rs
    obtain ⟨u, rfl, rx⟩ := vals1 r
    cases rx
    exact call_int_bool ⟨.int _, H, I.tok _, ⟨_, rfl⟩, k _ _ F H (Gr.refl sF) (by unfold Rep; rfl) h⟩
  · unfold Reps Reps Rep at rs
    obtain ⟨v, _, rfl, rfl, rfl⟩ := rs
    obtain ⟨u, rfl, rx⟩ := vals1 r
    obtain ⟨t, rfl⟩ := rx
    exact call_int_int ⟨.int _, H, I, ⟨_, rfl⟩, k _ _ F H (Gr.refl sF) (by unfold Rep; rfl) h⟩
  · exact h.elim

def n_sorted : List D → (List D → Prop) → Prop := fun ds P => match ds with | [.lst xs] => ∃ ns, intsD xs = some ns ∧ ns.length < 64 ∧ ∀ ms : List Int, ms.Perm ns → ms.Pairwise (· ≤ ·) → P (ms.map .int) | _ => False
end L3

namespace L3
open PySem PySem.Spec PyProof.Rows L2

section
variable {prog : Program} {w : World} {A : Around} {E : Value → Shared → Prop} {s : Shared}
def IsIt (t : Bool) (h : Heap) (it l : Addr) (i : Nat) : Prop := match t with | false => h.IsListIter it l i | true => h.IsTupleIter it l i
def IsSq (t : Bool) (h : Heap) (l : Addr) (xs : Array Value) : Prop := match t with | false => h.IsList l xs | true => h.IsTuple l xs
structure ZApart (z TI TO i1 i2 l1 l2 : Addr) : Prop where
  p : TI ≠ z ∧ TO ≠ z ∧ i1 ≠ z ∧ i2 ≠ z ∧ TI ≠ TO ∧ TI ≠ i1 ∧ TI ≠ i2 ∧ TO ≠ i1 ∧ TO ≠ i2 ∧ i1 ≠ i2
  q : l1 ≠ z ∧ l1 ≠ TO ∧ l1 ≠ i1 ∧ l1 ≠ i2 ∧ l2 ≠ z ∧ l2 ≠ TO ∧ l2 ≠ i1 ∧ l2 ≠ i2
def itN (t : Bool) : String := if t then "tuple_iterator" else "list_iterator"
abbrev zH1 (t1 : Bool) (h : Heap) (l1 : Addr) : Heap := h.push { cls := .type (itN t1), data := .fields #[.ref l1, .int 0 0] }
abbrev zH2 (t1 t2 : Bool) (h : Heap) (l1 l2 : Addr) : Heap := (zH1 t1 h l1).push { cls := .type (itN t2), data := .fields #[.ref l2, .int 0 0] }
abbrev zH3 (t1 t2 : Bool) (h : Heap) (l1 l2 : Addr) : Heap := (zH2 t1 t2 h l1 l2).push { cls := .type "tuple", data := .seq #[.ref h.objs.size, .ref (zH1 t1 h l1).objs.size] }
abbrev zH4 (t1 t2 : Bool) (h : Heap) (l1 l2 : Addr) : Heap := (zH3 t1 t2 h l1 l2).push { cls := .type "tuple", data := .seq #[.none, .none] }
abbrev zH5 (t1 t2 : Bool) (h : Heap) (l1 l2 : Addr) : Heap := (zH4 t1 t2 h l1 l2).push { cls := .type "zip", data := .fields #[.none, .bool false, .bool false, .ref (zH2 t1 t2 h l1 l2).objs.size, .ref (zH3 t1 t2 h l1 l2).objs.size] }
end

def Sq (t : Bool) (K : PySem.W.Frag) (H : Hp) (a : Addr) (xs : List V) : Prop := match t with | false => SqL K H a xs | true => SqT K H a xs
def Itz (K : PySem.W.Frag) (t1 t2 : Bool) (a b : Addr) : It :=
  ⟨fun i H => ∃ xs ys x y, Sq t1 K H a xs ∧ Sq t2 K H b ys ∧ xs[i]? = some x ∧ ys[i]? = some y, fun i H v H' => ∃ c x y, v = .ref c ∧ H c = none ∧ H' = upd H c (.tup [x, y]) ∧ (∀ xs, Sq t1 K H a xs → xs[i]? = some x) ∧ ∀ ys, Sq t2 K H b ys → ys[i]? = some y,
    fun i H => ∃ xs ys, Sq t1 K H a xs ∧ Sq t2 K H b ys ∧ (xs.length ≤ i ∨ ys.length ≤ i)⟩
def iZip (K : PySem.W.Frag) (ta : TA) : TI := fun σ H R => ta σ H fun vs H1 => ∃ t1 t2 a b xs ys, vs = [.ref a, .ref b] ∧ Sq t1 K H1 a xs ∧ Sq t2 K H1 b ys ∧ (xs.length ≤ sizeLine → ys.length ≤ sizeLine → R (Itz K t1 t2 a b) H1)
def zipD (xs ys : List D) : List D := List.zipWith (fun x y => .tup [x, y]) xs ys
def sqD : D → Option (Bool × List D) | .lst xs => some (false, xs) | .tup xs => some (true, xs) | _ => none
def i_zip (t : TF2) : TF2 := fun Γ P E => t Γ (fun ds Γ1 => match ds with | [x, y] => (match x, y with | .lst xs, .lst ys => P (zipD xs ys) Γ1 | .tup xs, .tup ys => P (zipD xs ys) Γ1 | _, _ => False) | _ => False) E
section
variable {X : Cx} {F0 H0 : Hp} {a b e tg : Expr} {es : List Expr} {pos p pt : Pos} {te : TE2} {t : TF2} {elts : List Expr}
end
end L3

namespace L3
open PySem PySem.Spec PyProof.Rows L2

def lookD : List Str → List D → Str → Option D
  | f :: fs, d :: ds, g => if g = f then some d else lookD fs ds g
  | _, _, _ => none
theorem lookD_rep {K : PySem.W.Frag} {F : Hp} {g : Str} {x : D} : ∀ {fs : List Str} {ds : List D} {vs : List V}, lookD fs ds g = some x → Reps K F ds vs → ∃ v, (fs.zip vs).lookup g = some v ∧ Rep K F x v
  | [], _, _, h, _ => by cases h
  | _ :: _, [], _, h, _ => by cases h
  | f :: fs, d :: ds, vs, h, r => by
    unfold Reps at r
    obtain ⟨v, us, rfl, r1, r2⟩ := r
    unfold lookD at h
    rw [List.zip_cons_cons, List.lookup_cons]
    by_cases e : g = f
    · rw [if_pos e] at h; cases h
      subst e
      exact ⟨v, by simp, r1⟩
    · rw [if_neg e] at h
      obtain ⟨u, hu, ru⟩ := lookD_rep h r2
      exact ⟨u, by rw [beq_false_of_ne e]; exact hu, ru⟩
theorem lookup_not {g : Str} : ∀ {fs : List Str} {vs : List V}, g ∉ fs → (fs.zip vs).lookup g = none
  | [], _, _ => rfl
  | _ :: _, [], _ => rfl
  | f :: fs, v :: vs, h => by
    rw [List.zip_cons_cons, List.lookup_cons]
    have h1 : g ≠ f := fun e => h (by simp [e])
    rw [beq_false_of_ne h1]
    exact lookup_not (vs := vs) (fun e => h (List.mem_cons_of_mem _ e))
def cFld (C : Addr) (f : Str) (te : TE2) : TE2 := fun Γ P E => te Γ (fun d Γ1 => match d with | .obj C' fs ds => C' = C ∧ ∃ x, lookD fs ds f = some x ∧ P x Γ1 | _ => False) E
def cMeth (C : Addr) (m : Str) (sp : Sp2) (te : TE2) (t : TF2) : TE2 := fun Γ P E => te Γ (fun d Γ1 => match d with
  | .obj C' fs ds => C' = C ∧ m ∉ fs ∧ t Γ1 (fun es Γ2 => sp (.obj C' fs ds :: es) (fun r => P r Γ2) fun Cx => E Γ2 Cx) E
  | _ => False) E
section
variable {X : Cx} {F0 H0 : Hp} {e o : Expr} {es : List Expr} {pos p apos : Pos} {f m : Str} {C fa : Addr} {fd : FuncData} {ps : List Str} {k : Nat} {sp : Sp2} {te : TE2} {t : TF2}
theorem qe_fld (hc : L2.Cls X.K C) (hn : NoAttr X.K C f) (he : QE X F0 H0 e te) (hb : attributeBase e f X.env (eval e X.env) = eval e X.env := by rfl) : QE X F0 H0 (.Attribute e f pos) (cFld C f te) := fun z E cx =>
  peC (pe_fld (X := X.wsh z) (he z E cx) hb) fun σ H Q hq1 => by obtain ⟨F, Γ, P, R, h, k⟩ := hq1; exact ⟨F, Γ, _, R, h, fun d Γ1 F1 H1 v R1 s1 r1 h1 => by
    cases d with
    | obj C' fs ds =>
      obtain ⟨rfl, x, hx, hp⟩ := h1
      unfold Rep at r1
      obtain ⟨a, dx, vs, rfl, ea, hl, rs⟩ := r1
      obtain ⟨u, hu, ru⟩ := lookD_rep hx rs
      exact ⟨a, C', dx, _, u, rfl, R1.g _ _ ea, hc, hn, hu, k x Γ1 F1 H1 u R1 s1 ru hp⟩
    | _ => exact False.elim h1⟩
end

def spInit (K : PySem.W.Frag) (C : Addr) (f : Str) (sp : Sp2) : Sp := fun vs H Q E => ∃ x dx rest F ds Pd Ex, vs = .ref x :: rest ∧ H x = some (.ins C dx []) ∧ H dx = some (.own x) ∧ dx ≠ x ∧ Same F H ∧ F x = none ∧ F dx = none ∧ Reps K F ds rest ∧ sp ds Pd Ex ∧
  (∀ d F' H' H3 v, Gr F H F' H3 → Rep K F' d v → Pd d → H' = upd H3 x (.ins C dx [(f, v)]) → Q .non H') ∧ ∀ C' H', Ex C' → Same H H' → E C' none H'
theorem cx1_rebase {P : Program} {w : World} {outer : List Env} {H H2 : Hp} {s s2 : Shared} {E : XK} {e : Value} {s' : Shared} (h : CX1 P w outer H2 s2 E e s') (os : s2.os = s.os) (un : Un (frs outer) [] H H2 s.heap s2.heap) (kp : ∀ b o, s.heap.get? b = some o → s2.heap.get? b = some o) : CX1 P w outer H s E e s' := by
  obtain ⟨a, C, H', B, h1, h2, h3, h4, h5, h6, h7, h8, h9⟩ := h
  exact ⟨a, C, H', B, h1, h2.trans os, h3, un.trans h4, h5, h6, fun b o e n => h7 b o (kp b o e) n, h8, h9⟩
def spObj (C : Addr) (f : Str) (sp : Sp2) : Sp2 := fun ds P E => sp ds (fun d => P (.obj C [f] [d])) E
section
variable {P : Program} {w : World} {K : PySem.W.Frag} {mg : Str → Option Value} {base : Heap}
end
section
variable {X : Cx} {F0 H0 : Hp} {e : Expr} {es : List Expr} {pos p : Pos} {x fl : Str} {C f : Addr} {fd : FuncData} {ps : List Str} {k : Nat} {sp : Sp2} {t : TF2}
end

structure Mt2 (P : Program) (w : World) (K : PySem.W.Frag) (mg : Str → Option Value) (base : Heap) (C : Addr) (m : Str) (k : Nat) (ps : List Str) (sp : Sp2) : Prop where
  ex : ∃ f fd, FnOk P w K mg base (CX1 P w) k f fd ps (spUp K sp) ∧ Meth K C m f ∧ Binds K fd ps []
structure Mk2 (P : Program) (w : World) (K : PySem.W.Frag) (mg : Str → Option Value) (base : Heap) (x : Str) (C : Addr) (fl : Str) (k : Nat) (ps : List Str) (sp : Sp2) : Prop where
  ex : ∃ f fd, FnOk P w K mg base (CX1 P w) k f fd ps (spInit K C fl sp) ∧ Mk K C f ∧ mg x = some (.ref C) ∧ Binds K fd ps []
def cSlT (te : TE2) (tl th : TO2) : TE2 := fun Γ P E => te Γ (fun d Γ1 => tl Γ1 (fun l Γ2 => th Γ2 (fun u Γ3 => match d with | .tup xs => ¬ (HT.sIx xs.length 0 l = 0 ∧ HT.sIx xs.length xs.length u = xs.length) ∧ P (.tup (cutD xs l u)) Γ3 | _ => False) E) E) E
section
variable {X : Cx} {F0 H0 : Hp} {e o : Expr} {lo hi : Option Expr} {es : List Expr} {pos p p2 apos : Pos} {x m fl : Str} {C : Addr} {ps : List Str} {k : Nat} {sp : Sp2} {te : TE2} {tl th : TO2} {t : TF2}
def spNo : Sp2 := fun _ _ _ => False
end
end L3

namespace L3
open PySem PySem.Spec PyProof.Rows L2

mutual
def nolD : D → Prop
  | .lst _ => False
  | .exc _ => False
  | .dic _ _ => False
  | .dit _ _ => False
  | .tup xs => nolDs xs
  | .obj _ fs xs => mutF fs = false ∧ nolDs xs
  | _ => True
def nolDs : List D → Prop
  | [] => True
  | d :: ds => nolD d ∧ nolDs ds
end
section
variable {K : PySem.W.Frag} {F F' : Hp} {A : Addr → Prop}
end
def cLend (te : TE2) : TE2 := fun Γ P _ => te (frzG Γ) (fun d _ => nolD d ∧ P d Γ) noX
section
variable {X : Cx} {F0 H0 : Hp} {e : Expr} {te : TE2}
open Classical in
end
end L3

namespace L3
open PySem PySem.Spec PyProof.Rows L2
def cPut (i : Nat) (ti te : TE2) : TS2 := fun D Γ E => te Γ (fun d Γ1 => (∃ xs, Γ1[i]? = some (.ow xs)) ∧ ti Γ1 (fun k Γ2 => match k, Γ2[i]? with
  | .int k, some (.ow xs) => ∃ j, ixN xs.length k = some j ∧ D.nx (Γ2.set i (.ow (xs.set j d)))
  | _, _ => False) E) E
section
variable {X : Cx} {F0 H0 : Hp} {x : Str} {pos pos' npos : Pos} {e k : Expr} {i : Nat} {te ti : TE2}
end
end L3

namespace L3
open PySem PySem.Spec PyProof.Rows L2

section
variable (K : PySem.W.Frag) (F0 H0 : Hp)
def upR (t : TE2) (E : XW) : TE := fun σ H Q => ∃ F Γ P, SR K F0 H0 F H σ Γ ∧ t Γ P E ∧ ∀ d Γ' F' H' v, SR K F0 H0 F' H' σ Γ' → Same F F' → Rep K (lessL F0 F') d v → P d Γ' → Q v H'
def upAR (t : TF2) (E : XW) : TA := fun σ H Q => ∃ F Γ P, SR K F0 H0 F H σ Γ ∧ t Γ P E ∧ ∀ ds Γ' F' H' vs, SR K F0 H0 F' H' σ Γ' → Same F F' → Reps K (lessL F0 F') ds vs → P ds Γ' → Q vs H'
end
def QR (X : Cx) (F0 H0 : Hp) (e : Expr) (t : TE2) : Prop := ∀ z E, Ctx (X.wsh z) F0 H0 E → PE (X.wsh z) e (upR X.K F0 H0 t E)
def QRA (X : Cx) (F0 H0 : Hp) (es : List Expr) (t : TF2) : Prop := ∀ z E, Ctx (X.wsh z) F0 H0 E → PA (X.wsh z) es (upAR X.K F0 H0 t E)
section
variable {X : Cx} {F0 H0 : Hp} {e : Expr} {es : List Expr} {pos : Pos} {te : TE2}
def cNl (te : TE2) : TE2 := fun Γ P E => te Γ (fun d Γ1 => nolD d ∧ P d Γ1) E
def cOwR (i : Nat) : TE2 := fun Γ P _ => match Γ[i]? with
  | some (.ow ds) => nolDs ds ∧ P (.lst ds) (Γ.set i (.pu (.lst ds)))
  | _ => False
def cOfR (t : TF2) : TE2 := fun Γ P E => t Γ (fun ds Γ1 => nolDs ds ∧ P (.lst ds) Γ1) E
def cRetR (te : TE2) : TS2 := fun D Γ E => te Γ (fun d _ => D.rf d) E
end

def spUpR (K : PySem.W.Frag) (sp : Sp2) : Sp := fun vs H Q E => ∃ F ds P Ex, Same F H ∧ Reps K F ds vs ∧ sp ds P Ex ∧ (∀ d v F' H', Gr F H F' H' → Rep K (lessL F F') d v → P d → Q v H') ∧ ∀ C H', Ex C → Same H H' → E C none H'
structure Fn2R (P : Program) (w : World) (K : PySem.W.Frag) (mg : Str → Option Value) (base : Heap) (x : Str) (k : Nat) (ps : List Str) (sp : Sp2) : Prop where
  ex : ∃ f fd, FnOk P w K mg base (CX1 P w) k f fd ps (spUpR K sp) ∧ mg x = some (.ref f) ∧ PySem.W.keepIn K (.ref f) = true ∧ Binds K fd ps []
section
variable {P : Program} {w : World} {K : PySem.W.Frag} {mg : Str → Option Value} {base : Heap}
end
section
variable {X : Cx} {F0 H0 : Hp} {e : Expr} {es : List Expr} {pos p : Pos} {x : Str} {f : Addr} {fd : FuncData} {ps : List Str} {k : Nat} {sp : Sp2} {t : TF2} {te : TE2}
def cLendR (te : TE2) : TE2 := fun Γ P _ => te (frzG Γ) (fun d _ => P d Γ) noX
open Classical in
end

def fRep (tf : TF2) (tb : TE2) : TF2 := fun Γ P E => tf Γ (fun xs Γ1 => tb Γ1 (fun d Γ2 => match d with | .int k => (-(2 ^ 63) ≤ k ∧ k < 2 ^ 63 ∧ xs.length * k.toNat ≤ sizeLine) ∧ P (List.replicate k.toNat xs).flatten Γ2 | _ => False) E) E
section
variable {X : Cx} {F0 H0 : Hp} {a b : Expr} {pos : Pos} {tf : TF2} {tb : TE2}
end
end L3

namespace L3
open PySem PySem.Spec PyProof.Rows L2

def evT {α : Type} (lt : Nat → Nat → Bool) : PySem.W.KasT α → α
  | .ret a => a
  | .ask i j k => evT lt (k (lt i j))
def okT {α : Type} (lt : Nat → Nat → Bool) (n : Nat) : PySem.W.KasT α → Bool
  | .ret _ => true
  | .ask i j k => decide (i < n) && (decide (j < n) && (decide (i ≠ j) && okT lt n (k (lt i j))))
theorem wp_evT {α : Type} {cmp : Nat → Nat → (Bool → Shared → Prop) → Shared → Prop} {lt : Nat → Nat → Bool} {n : Nat} {s : Shared} (hc : ∀ i j (C : Bool → Shared → Prop), i < n → j < n → i ≠ j → C (lt i j) s → cmp i j C s) :
    ∀ (t : PySem.W.KasT α) (Q : α → Shared → Prop), okT lt n t = true → Q (evT lt t) s → t.kasWp cmp Q s
  | .ret _, _, _, h => h
  | .ask i j k, Q, ok, h => by
    unfold okT at ok
    simp only [Bool.and_eq_true, decide_eq_true_eq] at ok
    exact hc i j _ ok.1 ok.2.1 ok.2.2.1 (wp_evT hc (k (lt i j)) Q ok.2.2.2 h)

def TupI (h : Heap) (v : Value) (i : Int) : Prop := ∃ (x : Addr) (o : Obj) (xs : Array Value) (m : Nat) (t : Tok), v = .ref x ∧ h.get? x = some o ∧ o.cls = .type "tuple" ∧ o.data = .seq xs m ∧ xs[0]? = some (.int i t)
inductive TupsI (h : Heap) : List Value → List Int → Prop
  | nil : TupsI h [] []
  | cons {v i vs is} : TupI h v i → TupsI h vs is → TupsI h (v :: vs) (i :: is)
def ltI (ns : List Int) (i j : Nat) : Bool := decide (ns.getD i 0 < ns.getD j 0)
def srtIx (ns : List Int) : List Nat := if ns.length < 2 then List.range ns.length else (evT (ltI ns) (PySem.W.kas_sort ns.length)).toList
def srtOk (ns : List Int) : Prop := ns.length < 2 ∨ (ns.length < 64 ∧ ns.Nodup ∧ okT (ltI ns) ns.length (PySem.W.kas_sort ns.length) = true)
section
variable {prog : Program} {w : World} {A : Around} {E : Value → Shared → Prop} {s : Shared}
theorem size_sort {vs : List Value} {p : Array Nat} (hp : p.size = vs.length) : (List.toArray (p.toList.map fun i => vs.getD i Value.none)).size = vs.length := by simp [hp]
end
def firstsD : List D → Option (List Int)
  | [] => some []
  | .tup (.int i :: _) :: r => (firstsD r).map (i :: ·)
  | _ :: _ => none
def n_sortedT : List D → (List D → Prop) → Prop := fun ds P => match ds with | [.lst xs] => ∃ ns, firstsD xs = some ns ∧ srtOk ns ∧ (∀ i ∈ srtIx ns, i < ns.length) ∧ (srtIx ns).length ≤ sizeLine ∧ P ((srtIx ns).map fun i => xs.getD i .non) | _ => False
end L3

namespace L3
open PySem PySem.Spec PyProof.Rows L2

def Ris (xs : List Nat) : Prop := xs.Pairwise (· < ·)
structure Bel (xs : List Nat) (j b : Nat) : Prop where
  le : b ≤ xs.length
  lo : ∀ (k : Nat) (h : k < xs.length), k < b → xs[k] < j
  hi : ∀ (k : Nat) (h : k < xs.length), b ≤ k → j ≤ xs[k]
structure TOk (led : Bool) (t : SetTable) : Prop where
  ris : Ris t.place.toList
  dum : t.dummies = #[]
  led : t.led = led
end L3

namespace L3
open PySem PySem.Spec PyProof.Rows L2

section
variable {prog : Program} {w : World} {κ : Type} [DecidableEq κ] (knd : KeyKind prog w κ) (kf : Value → κ)
structure SObj (led : Bool) (o : Obj) (ks : List κ) (es : Array (Int × Value)) (ep : Nat) (t : SetTable) : Prop where
  ex : o.ExactSet
  dat : o.data = .set es ep t
  el : ElemsOf knd es.toList
  fit : t.fits es.size = true
  tok : TOk led t
  key : (es.toList.map fun e => kf e.2).Perm ks
def SetI (led : Bool) (h : Heap) (a : Addr) (ks : List κ) : Prop := ∃ o es ep t, h.get? a = some o ∧ SObj knd kf led o ks es ep t
def insK (ks : List κ) (k : κ) : List κ := if k ∈ ks then ks else ks ++ [k]
variable {knd kf} (hkf : ∀ k v, knd.is k v = true → kf v = k)
include hkf
variable {A : Around} {E : Value → Shared → Prop} {s : Shared} {a : Addr} {ks : List κ} {led : Bool}
end
end L3

namespace L3
open PySem PySem.Spec PyProof.Rows L2

abbrev ledOf (w : World) : Bool := !(w.params.followText "set-order")
abbrev newSetO (w : World) : Obj := { cls := .type "set", dict := none, data := .set #[] 0 (.fresh 0 0 (ledOf w)) }
def metK {κ : Type} [DecidableEq κ] (val : Nat → κ) : Nat → List κ
  | 0 => []
  | i + 1 => insK (metK val i) (val i)
section
variable {prog : Program} {w : World} {κ : Type} [DecidableEq κ] {knd : KeyKind prog w κ} {kf : Value → κ} (hkf : ∀ k v, knd.is k v = true → kf v = k)
end
section
variable {prog : Program} {w : World} {A : Around} {E : Value → Shared → Prop} {s : Shared}
end
section
variable {prog : Program} {w : World} {κ : Type} [DecidableEq κ] {knd : KeyKind prog w κ} {kf : Value → κ} (hkf : ∀ k v, knd.is k v = true → kf v = k) {A : Around} {E : Value → Shared → Prop} {s : Shared}
include hkf
set_option maxHeartbeats 3200000 in
end
end L3

namespace L3
open PySem PySem.Spec PyProof.Rows L2

def SIt (h : Heap) (I : Addr) (fst : Value) (i : Nat) (S : Addr) (n ep : Nat) : Prop := ∃ o, h.get? I = some o ∧ o.cls = .type "set_iterator" ∧ o.data = .fields #[fst, .int i 0, .ref S, .int n 0, .int ep 0]
section
variable {prog : Program} {w : World} {A : Around} {E : Value → Shared → Prop} {s : Shared}
section
variable {S I : Addr} {fst : Value} {i n ep : Nat} {o : Obj} {es : Array (Int × Value)} {t : SetTable}
end
end
end L3

namespace L3
open PySem PySem.Spec PyProof.Rows L2

section
variable {prog : Program} {w : World} {κ : Type} [DecidableEq κ] {knd : KeyKind prog w κ} {kf : Value → κ} {A : Around} {E : Value → Shared → Prop} {s : Shared} {S I : Addr} {fst : Value} {i n ep : Nat} {o : Obj} {es : Array (Int × Value)} {t : SetTable} {led : Bool} {ks : List κ}
end
end L3

namespace L3
open PySem PySem.Spec PyProof.Rows L2

section
variable {prog : Program} {w : World} {κ : Type} [DecidableEq κ] {knd : KeyKind prog w κ} {kf : Value → κ}
structure Steps (prog : Program) (w : World) (A : Around) (I S : Addr) (n ep : Nat) (o : Obj) (ex : List (Addr × Obj)) (vals : List Value) (fst : Nat → Value) : Prop where
  item : ∀ i (s : Shared) (Q : Option Value → Shared → Prop) (E : Value → Shared → Prop), i < n → SIt s.heap I (fst i) i S n ep → s.heap.get? S = some o → (∀ p ∈ ex, s.heap.get? p.1 = some p.2) →
    (∀ v h', vals[i]? = some v → SIt h' I (fst (i + 1)) (i + 1) S n ep → Heap.SameBut I s.heap h' → Q (some v) { s with heap := h' }) → wpAny (model prog w) A (pyNext (.ref I)) Q E s
  done : ∀ (s : Shared) (Q : Option Value → Shared → Prop) (E : Value → Shared → Prop), SIt s.heap I (fst n) n S n ep → s.heap.get? S = some o → (∀ p ∈ ex, s.heap.get? p.1 = some p.2) →
    (∀ h', Heap.ExtBut I s.heap h' → Q none { s with heap := h' }) → wpAny (model prog w) A (pyNext (.ref I)) Q E s
variable {A : Around} {I S : Addr} {n ep : Nat} {o : Obj} {es : Array (Int × Value)} {t : SetTable} {ks : List κ}
def slotL (t : SetTable) (i : Nat) : Nat := if h : 0 < i ∧ i ≤ t.place.toList.length then t.place.toList[i - 1]'(by omega) + 1 else 0
end
end L3

namespace L3
open PySem PySem.Spec PyProof.Rows L2

section
variable {prog : Program} {w : World} {κ : Type} [DecidableEq κ] {knd : KeyKind prog w κ} {kf : Value → κ} {A : Around} {E : Value → Shared → Prop} {s : Shared} {S : Addr} {ep : Nat} {o : Obj} {es : Array (Int × Value)} {t : SetTable} {ks : List κ}
structure Laid (knd : KeyKind prog w κ) (kf : Value → κ) (s : Shared) (S : Addr) (o : Obj) (ks : List κ) (I : Addr) (h' : Heap) (n : Nat) (vals : List Value) (St : Nat → Heap → Prop) (fp : List Addr) : Prop where
  wk : ∀ A' : Around, A'.handled = none → Walks prog w A' I fp [I] n (fun i v => vals[i]? = some v) St
  st : St 0 h'
  len : vals.length = n
  lem : n = ks.length
  key : (vals.map kf).Perm ks
  mem : ∀ v ∈ vals, (∃ k, knd.is k v = true) ∧ v.scannable = true
  new : s.heap.objs.size ≤ I
  inF : I ∈ fp
  fpl : ∀ b ∈ fp, b < h'.objs.size
  fpn : ∀ b ∈ fp, b = S ∨ s.heap.objs.size ≤ b
  kep : ∀ b ob, s.heap.get? b = some ob → h'.get? b = some ob
  siz : s.heap.objs.size ≤ h'.objs.size
abbrev newLst : Obj := { cls := .type "list", data := .seq ([] : List Value).toArray }
end
end L3

namespace L3
open PySem PySem.Spec PyProof.Rows L2

def intK : Value → Int | .int i _ => i | _ => 0
theorem sh_at {h : Heap} {a : Addr} {vs : List Value} {out xs : Array Value} {n : Nat} (hob : h.get? a = some (seqObj "list" xs n)) : ∃ e, (sortedHeap h a vs out).get? a = some (seqObj "list" out e) := by
  have hal : a < h.objs.size := Heap.lt_size hob
  have h1 := get?_update_seq hob (fun _ => (#[] : Array Value))
  have h2 : (((h.update a (Obj.mapSeq fun _ => #[])).push (seqObj "tuple" vs.toArray 0)).push (seqObj "list" #[] 0)).get? a = some (seqObj "list" #[] _) := Heap.get?_push_of_some _ (Heap.get?_push_of_some _ h1)
  exact ⟨_, get?_update_seq h2 (fun _ => out)⟩
theorem sh_old {h : Heap} {a b : Addr} {vs : List Value} {out : Array Value} {o : Obj} (hb : h.get? b = some o) (hne : b ≠ a) : (sortedHeap h a vs out).get? b = some o := by
  have h1 : (h.update a (Obj.mapSeq fun _ => (#[] : Array Value))).get? b = some o := (Heap.get?_update_ne _ _ _ _ hne).trans hb
  exact (Heap.get?_update_ne _ _ _ _ hne).trans (Heap.get?_push_of_some _ (Heap.get?_push_of_some _ h1))
section
variable {prog : Program} {w : World} {A : Around} {E : Value → Shared → Prop} {s : Shared} {S : Addr} {ks : List Int}
end
def setO (P : Program) (w : World) (a : Addr) (ns : List Int) : HO := .ext fun h => SetI (PySem.intKind P w) intK (ledOf w) h a (metK (fun i => ns.getD i 0) ns.length)
def rSet (X : Cx) : List V → Hp → VK → Prop := fun vs H Q => ∃ (p : Addr) (ns : List Int), vs = [.ref p] ∧ SqL X.K H p (ns.map .int) ∧ ns.length + 1 < scanBound ∧ ∀ q, H q = none → Q (.ref q) (upd H q (setO X.prog X.w q ns))
def rSrt (X : Cx) : List V → Hp → VK → Prop := fun vs H Q => ∃ (q : Addr) (ns : List Int), vs = [.ref q] ∧ H q = some (setO X.prog X.w q ns) ∧ (metK (fun i => ns.getD i 0) ns.length).length < 64 ∧
  ∀ (l : Addr) (ms : List Int), H l = none → ms.Perm (metK (fun i => ns.getD i 0) ns.length) → ms.Pairwise (· ≤ ·) → Q (.ref l) (upd H l (.lst (ms.map .int)))
def n_sset : List D → (List D → Prop) → Prop := fun ds P => match ds with
  | [.lst xs] => ∃ ns, intsD xs = some ns ∧ ns.length < 63 ∧ ∀ ms : List Int, ms.Pairwise (· < ·) → (∀ i, i ∈ ms ↔ i ∈ ns) → P (ms.map .int)
  | _ => False
section
variable {X : Cx} {F0 H0 : Hp} {a e : Expr} {pos p pos2 p2 : Pos} {t : TF2}
end
end L3

namespace L3
open PySem PySem.Spec PyProof.Rows L2

def Itv (K : PySem.W.Frag) (a : Addr) (xs : List V) : It := ⟨fun i H => SqL K H a xs ∧ i < xs.length, fun i H x H' => H' = H ∧ xs.reverse[i]? = some x, fun i _ => xs.length ≤ i⟩
def iRevV (K : PySem.W.Frag) (ta : TA) : TI := fun σ H R => ta σ H fun vs H1 => ∃ a xs, vs = [.ref a] ∧ SqL K H1 a xs ∧ (xs.length ≤ sizeLine → R (Itv K a xs) H1)
def i_reversed (t : TF2) : TF2 := fun Γ P E => t Γ (fun ds Γ1 => match ds with | [.lst xs] => P xs.reverse Γ1 | _ => False) E
section
variable {X : Cx} {F0 H0 : Hp} {a e tg : Expr} {pos p pos2 p2 : Pos} {t : TF2}
end

section
variable {prog : Program} {w : World} {A : Around} {E : Value → Shared → Prop} {s : Shared}
abbrev emptyL : Obj := { cls := .type "list", data := .seq #[] }
end
def n_rev : List D → (List D → Prop) → Prop := fun ds P => match ds with | [.lst xs] => P xs.reverse | _ => False
end L3

namespace L3
open PySem PySem.Spec PyProof.Rows L2

structure ExcI (K : PySem.W.Frag) (C : Addr) : Prop where
  cls : excB K C = true
  g : ExcG K C
  sa : PySem.W.findIn K (.ref C) "__setattr__" = some (some (.builtin "object.__setattr__"))
  hd : PySem.W.hasDictIn K C = true

section
variable {prog : Program} {w : World} {A : Around} {E : Value → Shared → Prop} {K : PySem.W.Frag} {h : Heap} {g : Array GenState} {d : Drawn} {t : Nat} {os : OsState} {x C : Addr} {o : Obj} {name : Str} {v : Value}
end
end L3

namespace L3
open PySem PySem.Spec PyProof.Rows L2
section
variable {prog : Program} {w : World} {A : Around} {E : Value → Shared → Prop} {K : PySem.W.Frag} {h : Heap} {g : Array GenState} {d : Drawn} {t : Nat} {os : OsState} {x C dx : Addr} {o : Obj} {name : Str} {v : Value} {mA : Str → Option Value}
end
end L3

namespace L3
open PySem PySem.Spec PyProof.Rows L2

def XO (e C : Addr) (od : Option Addr) : HO := .ext fun h => ∃ t, h.get? e = some ⟨.ref C, od, .fields #[.ref t, .none, .none, .none, .bool false, .none], #[]⟩
section
variable {X : Cx} {pins : List (Addr × Obj)} {σ : St} {H : Hp} {s : Shared} {A : Around} {E : Value → Shared → Prop} {a C dx : Addr} {f : Str} {y v : V} {u : Value} {fs : List (Str × V)}
end

def tXFld (C : Addr) (f : Str) (ta : TE) : TE := fun σ H Q => ta σ H fun x H1 => ∃ a dx fs v, x = .ref a ∧ H1 a = some (XO a C (some dx)) ∧ H1 dx = some (.xd fs) ∧ fs.lookup f = some v ∧ Q v H1
def sXFld (C : Addr) (f : Str) (ta tv : TE) : TS := fun D σ H => tv σ H fun y H1 => ta σ H1 fun x H2 => ∃ a, x = .ref a ∧ H2 a = some (XO a C none) ∧ ∀ dx, H2 dx = none → dx ≠ a → D.nx σ (upd (upd H2 a (XO a C (some dx))) dx (.xd [(f, y)]))
structure ExcA (K : PySem.W.Frag) (B : Addr) : Prop where
  sp : PySem.W.specialIn K (.ref B) "__getattribute__" = some (some (.builtin "type.__getattribute__"))
  rd : PySem.W.readsIn K B (.type "type") = true
  fi : PySem.W.findCls K (.ref B) (.type "type") "__init__" = some (.val (.builtin "ValueError.__init__"))
section
variable {X : Cx} {o e value : Expr} {f : Str} {pos pos' apos p : Pos} {ta tv : TE} {C B : Addr} {x : Str}
end
end L3

namespace L3
open PySem PySem.Spec PyProof.Rows L2

def CallForm (bn : Str) (p apos pos : Pos) (args : List Expr) (env : Env) (pl : Sem Bool) : Prop := eval (.Call (.Attribute (.Name bn p) "__init__" apos) args [] pos) env = (do
      let ov ← eval (.Name bn p) env
      standAt apos.atName
      let (f, first) ← holding [ov] (getMethod ov "__init__" pl)
      callWith pos f first (backTo pos (starEach args env)) (backToKw pos (keywordEach [] env)))
def spXInit (K : PySem.W.Frag) (C : Addr) (f : Str) (sp : Sp2) : Sp := fun vs H Q E => ∃ x rest F ds Pd Ex, vs = .ref x :: rest ∧ H x = some (XO x C none) ∧ Same F H ∧ F x = none ∧ Reps K F ds rest ∧ sp ds Pd Ex ∧
  (∀ d F' H3 v dx H', Gr F H F' H3 → Rep K F' d v → Pd d → H3 dx = none → dx ≠ x → H' x = some (XO x C (some dx)) → H' dx = some (.xd [(f, v)]) → (∀ b, b ≠ x → b ≠ dx → H' b = H3 b) → Q .non H') ∧ ∀ C' H', Ex C' → Same H H' → E C' none H'
section
variable {P : Program} {w : World} {K : PySem.W.Frag} {mg : Str → Option Value} {base : Heap}
end
def cRaiseI (C : Addr) (sp : Sp2) (t : TF2) : TS2 := fun _ Γ E => t Γ (fun ds Γ1 => ds.length ≤ sizeLine ∧ sp ds (fun _ => E Γ1 (.ref C)) fun Cx => E Γ1 Cx) E
section
variable {X : Cx} {F0 H0 : Hp} {e : Expr} {es : List Expr} {pos np cpos : Pos} {t : TF2} {x fl : Str} {C f : Addr} {fd : FuncData} {ps : List Str} {k : Nat} {sp : Sp2}
structure Xk2 (P : Program) (w : World) (K : PySem.W.Frag) (mg : Str → Option Value) (base : Heap) (x : Str) (C : Addr) (fl : Str) (k : Nat) (ps : List Str) (sp : Sp2) : Prop where
  ex : ∃ f fd, FnOk P w K mg base (CX1 P w) k f fd ps (spXInit K C fl sp) ∧ PySem.W.findIn K (.ref C) "__init__" = some (some (.ref f)) ∧ PySem.W.isFn K (.ref f) = true ∧ ExcI K C ∧ mg x = some (.ref C) ∧ Binds K fd ps []
end
end L3

namespace L3
open PySem PySem.Spec PyProof.Rows L2
section
variable {X : Cx} {F0 H0 : Hp} {tg iter elt : Expr} {ifs : List Expr} {pos : Pos} {sc : Scope} {own : List Str} {caps : List Nat} {N' : List Str} {ti : TF2} {g : TG2} {tc : TT2} {te : TE2}
open Classical in
end
end L3

namespace L3
open PySem PySem.Spec PyProof.Rows L2

section
variable {K : PySem.W.Frag} {F H : Hp}
theorem trs_leaf : ∀ {ds : List D} {vs : List V}, Reps K F ds vs → TRs K F H (ds.map .leaf) vs []
  | [], _, h => by unfold Reps at h; subst h; rw [List.map_nil]; unfold TRs; exact ⟨rfl, rfl⟩
  | d :: ds, _, h => by
    unfold Reps at h
    obtain ⟨v, us, rfl, h1, h2⟩ := h
    rw [List.map_cons]
    unfold TRs
    exact ⟨v, us, [], [], rfl, rfl, by unfold TR; exact ⟨rfl, h1⟩, trs_leaf h2⟩
theorem trs_app : ∀ {ts us : List T} {vs ws : List V} {as bs : List Addr}, TRs K F H ts vs as → TRs K F H us ws bs → TRs K F H (ts ++ us) (vs ++ ws) (as ++ bs)
  | [], us, vs, ws, as, bs, h1, h2 => by
    unfold TRs at h1
    obtain ⟨rfl, rfl⟩ := h1
    exact h2
  | t :: ts, us, vs, ws, as, bs, h1, h2 => by
    unfold TRs at h1
    obtain ⟨v, vs', a1, a2, rfl, rfl, q1, q2⟩ := h1
    rw [List.cons_append]
    unfold TRs
    exact ⟨v, vs' ++ ws, a1, a2 ++ bs, rfl, by rw [List.append_assoc], q1, trs_app q2 h2⟩
theorem trs_one {t : T} {v : V} {as : List Addr} (h : TR K F H t v as) : TRs K F H [t] [v] as := by
  unfold TRs
  refine ⟨v, [], as, [], rfl, by simp, h, ?_⟩
  unfold TRs
  exact ⟨rfl, rfl⟩
end
mutual
def nolT : T → Prop
  | .leaf d => nolD d
  | .lst ts => nolTs ts
  | .dic _ ts => nolTs ts
  | .dit _ ts => nolTs ts
  | .ob _ _ ts => nolTs ts
  | .kt _ => True
def nolTs : List T → Prop
  | [] => True
  | t :: ts => nolT t ∧ nolTs ts
end
section
variable {K : PySem.W.Frag} {F F' H : Hp}
end

abbrev TN2 := G2 → (T → G2 → Prop) → XW → Prop
section
variable (K : PySem.W.Frag) (F0 H0 : Hp)
def upN (t : TN2) (E : XW) : TE := fun σ H Q => ∃ F Γ P, SR K F0 H0 F H σ Γ ∧ t Γ P E ∧ ∀ tr Γ' F' H' v as, SR K F0 H0 F' H' σ Γ' → Same F F' → as.Nodup → (∀ a ∈ as, F' a = none ∧ H0 a = none ∧ Apart σ Γ' a) → TR K F' H' tr v as → P tr Γ' → Q v H'
end
def QN (X : Cx) (F0 H0 : Hp) (e : Expr) (t : TN2) : Prop := ∀ z E, Ctx (X.wsh z) F0 H0 E → PE (X.wsh z) e (upN X.K F0 H0 t E)
def nOf (t : TF2) : TN2 := fun Γ P E => t Γ (fun ds Γ1 => P (.lst (ds.map .leaf)) Γ1) E
section
variable {X : Cx} {F0 H0 : Hp} {e : Expr} {es : List Expr} {pos p : Pos} {te : TE2} {tf : TF2} {tn : TN2}
def nD0 : TN2 := fun Γ P _ => P (.dic [] []) Γ
def nLend (t : TN2) : TN2 := fun Γ P _ => t (frzG Γ) (fun tr _ => nolT tr ∧ P tr Γ) noX
open Classical in
def cSetT (i : Nat) (t : TN2) : TS2 := fun D Γ E => t Γ (fun tr Γ1 => ∀ as, D.nx (Γ1.set i (.tr as tr))) E
def cRetT (t : TN2) : TS2 := fun D Γ E => t Γ (fun tr _ => D.rT tr) E
def nV (i : Nat) : TN2 := fun Γ P _ => match Γ[i]? with
  | some (.tr _ t) => P t (Γ.set i .no)
  | _ => False
end
end L3

namespace L3
open PySem PySem.Spec PyProof.Rows L2

section
variable {prog : Program} {w : World} {κ : Type} [DecidableEq κ] {knd : KeyKind prog w κ} {A : Around} {E : Value → Shared → Prop} {s : Shared} {d : Addr} {ep : Nat} {kvs : List (κ × Value)}
end
section
variable {prog : Program} {w : World} {A : Around} {E : Value → Shared → Prop} {s : Shared} {d : Addr} {ep : Nat} {kvs : List (Key × Value)}
end
def rSrtD (X : Cx) : List V → Hp → VK → Prop := fun vs H Q => ∃ (q : Addr) (kvs : List (Key × V)) (ns : List Int), vs = [.ref q] ∧ H q = some (.dK kvs) ∧ kvs.map (·.1) = ns.map .inl ∧ ns.length < 64 ∧
  ∀ (l : Addr) (ms : List Int), H l = none → ms.Perm ns → ms.Pairwise (· ≤ ·) → Q (.ref l) (upd H l (.lst (ms.map .int)))
def fSrtK (i : Nat) : TF2 := fun Γ P _ => match Γ[i]? with
  | some (.tr _ (.dic ks _)) => ∃ ns : List Int, ks = ns.map .inl ∧ ns.length < 64 ∧ ∀ ms : List Int, ms.Perm ns → ms.Pairwise (· ≤ ·) → P (ms.map .int) Γ
  | _ => False
section
variable {X : Cx} {F0 H0 : Hp} {pos p px : Pos} {x : Str} {i : Nat}
end
end L3

namespace L3
open PySem PySem.Spec PyProof.Rows L2

section
variable {K : PySem.W.Frag} {F0 H0 F H F' H' : Hp} {σ : St} {Γ : List Slot}
theorem apart_less {i : Nat} {o : Option V} {a : Addr} (e1 : σ[i]? = some o) (h : Apart σ Γ a) : Apart σ (Γ.set i .no) a := fun j q => by
  have q' : OwnAt (Γ.set i .no) (σ.set i o) j a := by rw [set_at e1]; exact q
  rcases ownAt_set q' with ⟨_, z⟩ | ⟨_, z⟩
  · exact z
  · exact h j z
theorem SR.wrT {i : Nat} {s t : Slot} {o : Option V} {a : Addr} {u : HO} (R : SR K F0 H0 F H σ Γ) (e : Γ[i]? = some s) (e1 : σ[i]? = some o) (h : Own1 s o a) (r : SlotR K F (L2.upd H a u) H0 t o) (ht : ∀ b, Own1 t o b → Own1 s o b ∨ Apart σ Γ b) :
    SR K F0 H0 F (L2.upd H a u) σ (Γ.set i t) := by
  have R1 := R.wrO (t := .no) (u := u) e e1 h trivial fun _ z => z.elim
  have R2 := R1.put i r fun b hb => by
    rcases ht b hb with z | z
    · rw [show (Γ.set i Slot.no) = Γ.set i .no from rfl]; exact R.less e e1 z
    · exact apart_less e1 z
  rw [set_at e1, List.set_set] at R2
  exact R2
end

abbrev SpT := List D → (T → Prop) → (Value → Prop) → Prop
def spUpT (K : PySem.W.Frag) (sp : SpT) : Sp := fun vs H Q E => ∃ F ds P Ex, Same F H ∧ Reps K F ds vs ∧ sp ds P Ex ∧ (∀ t v as F' H', Gr F H F' H' → as.Nodup → (∀ a ∈ as, F' a = none ∧ H a = none) → TR K F' H' t v as → P t → Q v H') ∧ ∀ C H', Ex C → Same H H' → E C none H'
def spPl (sp : SpT) : Sp2 := fun ds P E => sp ds (fun t => P (toD t)) E
open Classical in
structure Fn2T (P : Program) (w : World) (K : PySem.W.Frag) (mg : Str → Option Value) (base : Heap) (x : Str) (k : Nat) (ps : List Str) (sp : SpT) : Prop where
  ex : ∃ f fd, FnOk P w K mg base (CX1 P w) k f fd ps (spUpT K sp) ∧ mg x = some (.ref f) ∧ PySem.W.keepIn K (.ref f) = true ∧ Binds K fd ps []
section
variable {P : Program} {w : World} {K : PySem.W.Frag} {mg : Str → Option Value} {base : Heap}
end
def cCallT (sp : SpT) (t : TF2) : TN2 := fun Γ P E => t Γ (fun ds Γ1 => sp ds (fun tr => P tr Γ1) fun C => E Γ1 C) E
section
variable {X : Cx} {F0 H0 : Hp} {e : Expr} {es : List Expr} {pos p : Pos} {x : Str} {ps : List Str} {k : Nat} {sp : SpT} {t : TF2}
end

def sApp (i : Nat) (t : TE) : TS := fun D σ H => ∃ a vs, σ[i]? = some (some (.ref a)) ∧ H a = some (.lst vs) ∧ t σ H fun v H1 => ∃ l us y, V.ref a = .ref l ∧ [v] = [y] ∧ H1 l = some (.lst us) ∧ us.length < sizeLine ∧ D.nx σ (upd H1 l (.lst (us ++ [y])))
section
variable {X : Cx} {F0 H0 : Hp} {e : Expr} {pos npos apos cpos : Pos} {x : Str} {i : Nat} {t : TE} {te : TE2} {tn : TN2}
def cTA (i : Nat) (te : TE2) : TS2 := fun D Γ E => (∃ as ts, Γ[i]? = some (.tr as (.lst ts))) ∧ te Γ (fun d Γ1 => match Γ1[i]? with | some (.tr as (.lst ts)) => ts.length < sizeLine ∧ D.nx (Γ1.set i (.tr as (.lst (ts ++ [.leaf d])))) | _ => False) E
def cTN (i : Nat) (tn : TN2) : TS2 := fun D Γ E => (∃ as ts, Γ[i]? = some (.tr as (.lst ts))) ∧ tn Γ (fun t Γ1 => match Γ1[i]? with | some (.tr as (.lst ts)) => ts.length < sizeLine ∧ ∀ cs, D.nx (Γ1.set i (.tr (as ++ cs) (.lst (ts ++ [t])))) | _ => False) E
end
end L3

namespace L3
open PySem PySem.Spec PyProof.Rows L2

def hasK (ks : List Key) (k : Key) : Bool := ks.any fun k' => decide (k' = k)
def putKs (ks : List Key) (k : Key) : List Key := if hasK ks k = true then ks else ks ++ [k]
def putXs {α : Type} (ks : List Key) (xs : List α) (k : Key) (x : α) : List α := if hasK ks k = true then List.zipWith (fun k' y => if k' = k then x else y) ks xs else xs ++ [x]
theorem leaves_of {K : PySem.W.Frag} {F H : Hp} : ∀ {xs : List D} {vs : List V} {as : List Addr}, TRs K F H (xs.map .leaf) vs as → as = [] ∧ Reps K F xs vs
  | [], vs, as, h => by rw [List.map_nil] at h; unfold TRs at h; unfold Reps; exact ⟨h.2, h.1⟩
  | x :: xs, vs, as, h => by
    rw [List.map_cons] at h
    unfold TRs at h
    obtain ⟨v, us, bs, cs, rfl, rfl, h1, h2⟩ := h
    unfold TR at h1
    obtain ⟨rfl, r⟩ := h1
    obtain ⟨rfl, rs⟩ := leaves_of h2
    exact ⟨rfl, reps_cons r rs⟩
def cDP (i : Nat) (tk tv : TE2) : TS2 := fun D Γ E => tv Γ (fun d Γ1 => (∃ as t, Γ1[i]? = some (.tr as t)) ∧ tk Γ1 (fun kd Γ2 => match kd, Γ2[i]? with
  | .int k, some (.tr as (.dic ks ts)) => ∃ xs, ts = xs.map .leaf ∧ ks.length < sizeLine ∧ D.nx (Γ2.set i (.tr as (.dic (putKs ks (.inl k)) ((putXs ks xs (.inl k) d).map .leaf))))
  | _, _ => False) E) E
section
variable {X : Cx} {F0 H0 : Hp} {ke value : Expr} {pos npos pos' : Pos} {x : Str} {i : Nat} {tk tv : TE2}
end
end L3

namespace L3
open PySem PySem.Spec PyProof.Rows L2

section
variable {K : PySem.W.Frag} {F0 H0 F H F' H' : Hp} {σ σ' : St} {Γ Γ' : List Slot}
open Classical in
noncomputable def rebH (Γ : List Slot) (σ : St) (H : Hp) : Hp := fun b => if OwnA Γ σ b then none else H b
end

def BackT (i x : Nat) (a b : Addr) (ts1 : List T) (j : Nat) (I : Nat → G2 → Prop) : G2 → Prop := fun Γ' => ∃ cs' us', Γ'[x]? = some (Slot.tr (b :: cs') (.lst us')) ∧ Γ'[i]? = some (Slot.pu (.ptr a)) ∧
  ∀ q : List Addr, I (j + 1) ((Γ'.set x Slot.no).set i (Slot.tr (a :: q) (.lst (ts1.set j (.lst us')))))
def cForT (i x : Nat) (tb : TS2) : TS2 := fun D0 Γ _ => ∃ as ts, Γ[i]? = some (Slot.tr as (.lst ts)) ∧ ∀ a bs, as = a :: bs → ∃ I : Nat → G2 → Prop, I 0 Γ ∧
  (∀ (j : Nat) Γ1, j < ts.length → I j Γ1 → ∃ bs1 ts1 us, Γ1[i]? = some (Slot.tr (a :: bs1) (.lst ts1)) ∧ ts1.length = ts.length ∧ ts1[j]? = some (.lst us) ∧
    ∀ (b : Addr) (cs : List Addr), tb { nx := BackT i x a b ts1 j I, ct := fun _ => False, bk := fun _ => False, rt := D0.rt, rf := D0.rf, rT := D0.rT } ((Γ1.set i (Slot.pu (.ptr a))).set x (Slot.tr (b :: cs) (.lst us))) noX) ∧
  ∀ Γ1, I ts.length Γ1 → D0.nx Γ1
section
variable {X : Cx} {F0 H0 : Hp} {pos px pn : Pos} {xv xn : Str} {i x : Nat} {body : List Stmt} {tb : TS2}
open Classical in
end
end L3

namespace L3
open PySem PySem.Spec PyProof.Rows L2
def nL1 (t : TN2) : TN2 := fun Γ P E => t Γ (fun tr Γ1 => P (.lst [tr]) Γ1) E
section
variable {X : Cx} {F0 H0 : Hp} {e : Expr} {pos : Pos} {tn : TN2}
end
end L3

namespace L3
open PySem PySem.Spec PyProof.Rows L2 PySem.W

structure Ord (lt : Nat → Nat → Bool) (n : Nat) : Prop where
  tri : ∀ i j, i < n → j < n → i ≠ j → lt i j = false → lt j i = true
  irr : ∀ i j, i < n → j < n → lt i j = true → lt j i = false
  tr : ∀ i j k, i < n → j < n → k < n → lt i j = true → lt j k = true → lt i k = true
def Sat {α : Type} (lt : Nat → Nat → Bool) (n : Nat) (t : KasT α) (Q : α → Prop) : Prop := okT lt n t = true ∧ Q (evT lt t)
section
variable {lt : Nat → Nat → Bool} {n : Nat} {α β : Type}
theorem sat_ret {a : α} {Q : α → Prop} (h : Q a) : Sat lt n (.ret a) Q := ⟨rfl, h⟩
theorem sat_ask {i j : Nat} {k : Bool → KasT α} {Q : α → Prop} (hi : i < n) (hj : j < n) (hij : i ≠ j) (h : Sat lt n (k (lt i j)) Q) : Sat lt n (.ask i j k) Q := by
  refine ⟨?_, h.2⟩
  unfold okT
  simp only [Bool.and_eq_true, decide_eq_true_eq]
  exact ⟨hi, hj, hij, h.1⟩
theorem sat_bind {f : α → KasT β} {Q : β → Prop} : ∀ {t : KasT α}, Sat lt n t (fun a => Sat lt n (f a) Q) → Sat lt n (t.bind f) Q
  | .ret a, h => h.2
  | .ask i j k, h => by
    have h1 := h.1
    unfold okT at h1
    simp only [Bool.and_eq_true, decide_eq_true_eq] at h1
    exact sat_ask h1.1 h1.2.1 h1.2.2.1 (sat_bind ⟨h1.2.2.2, h.2⟩)
theorem Sat.imp {t : KasT α} {Q Q' : α → Prop} (h : Sat lt n t Q) (k : ∀ a, Q a → Q' a) : Sat lt n t Q' := ⟨h.1, k _ h.2⟩
def Pm (n : Nat) (p : Array Nat) : Prop := p.toList.Perm (List.range n)
theorem Pm.size {p : Array Nat} (h : Pm n p) : p.size = n := by simpa using List.Perm.length_eq h
theorem getD_at {p : Array Nat} {k : Nat} (hk : k < p.size) : p.getD k 0 = p.toList[k]'(by simpa using hk) := by simp [Array.getD, hk]
theorem Pm.below {p : Array Nat} (h : Pm n p) {k : Nat} (hk : k < n) : p.getD k 0 < n := by
  have hk' : k < p.size := by rw [h.size]; exact hk
  rw [getD_at hk']
  exact List.mem_range.mp (h.mem_iff.mp (List.getElem_mem _))
theorem Pm.ne {p : Array Nat} (h : Pm n p) {k j : Nat} (hk : k < n) (hj : j < n) (hkj : k ≠ j) : p.getD k 0 ≠ p.getD j 0 := by
  have nd : p.toList.Nodup := h.nodup_iff.mpr List.nodup_range
  rw [getD_at (by rw [h.size]; exact hk), getD_at (by rw [h.size]; exact hj)]
  have key := List.pairwise_iff_getElem.mp nd
  rcases Nat.lt_or_gt_of_ne hkj with q | q
  · exact key k j _ _ q
  · exact fun z => key j k _ _ q z.symm
def Lp (lt : Nat → Nat → Bool) (p : Array Nat) (i j : Nat) : Bool := lt (p.getD i 0) (p.getD j 0)
def Up (lt : Nat → Nat → Bool) (p : Array Nat) (r : Nat) : Prop := ∀ i j, i < j → j < r → Lp lt p i j = true
def Dn (lt : Nat → Nat → Bool) (p : Array Nat) (r : Nat) : Prop := ∀ i j, i < j → j < r → Lp lt p j i = true
theorem lp_tri (O : Ord lt n) {p : Array Nat} (P : Pm n p) {i j : Nat} (hi : i < n) (hj : j < n) (hij : i ≠ j) (h : Lp lt p i j = false) : Lp lt p j i = true := O.tri _ _ (P.below hi) (P.below hj) (P.ne hi hj hij) h
theorem lp_tr (O : Ord lt n) {p : Array Nat} (P : Pm n p) {i j k : Nat} (hi : i < n) (hj : j < n) (hk : k < n) (h : Lp lt p i j = true) (h' : Lp lt p j k = true) : Lp lt p i k = true := O.tr _ _ _ (P.below hi) (P.below hj) (P.below hk) h h'
theorem up_succ (O : Ord lt n) {p : Array Nat} (P : Pm n p) {r : Nat} (hr : r < n) (h1 : 1 ≤ r) (U : Up lt p r) (h : Lp lt p (r - 1) r = true) : Up lt p (r + 1) := fun i j hij hj => by
  rcases Nat.lt_or_ge j r with q | q
  · exact U i j hij q
  · obtain rfl : j = r := by omega
    rcases Nat.lt_or_ge i (j - 1) with q' | q'
    · exact lp_tr O P (by omega) (by omega) hr (U i (j - 1) q' (by omega)) h
    · obtain rfl : i = j - 1 := by omega
      exact h
theorem dn_succ (O : Ord lt n) {p : Array Nat} (P : Pm n p) {r : Nat} (hr : r < n) (h1 : 1 ≤ r) (U : Dn lt p r) (h : Lp lt p r (r - 1) = true) : Dn lt p (r + 1) := fun i j hij hj => by
  rcases Nat.lt_or_ge j r with q | q
  · exact U i j hij q
  · obtain rfl : j = r := by omega
    rcases Nat.lt_or_ge i (j - 1) with q' | q'
    · exact lp_tr O P hr (by omega) (by omega) h (U i (j - 1) q' (by omega))
    · obtain rfl : i = j - 1 := by omega
      exact h
theorem s_asc (O : Ord lt n) {p : Array Nat} (P : Pm n p) : ∀ (f m : Nat), 1 ≤ m → m + f ≤ n → Up lt p m → Sat lt n (kas_asc p f m) fun r => m ≤ r ∧ r ≤ m + f ∧ Up lt p r ∧ (r < m + f → Lp lt p r (r - 1) = true)
  | 0, m, h1, _, U => sat_ret ⟨Nat.le_refl _, Nat.le_refl _, U, fun z => absurd z (Nat.lt_irrefl _)⟩
  | f + 1, m, h1, hn, U => by
    unfold kas_asc
    refine sat_ask (P.below (by omega)) (P.below (by omega)) (P.ne (by omega) (by omega) (by omega)) ?_
    cases q : lt (p.getD m 0) (p.getD (m - 1) 0) with
    | true =>
      rw [if_pos rfl]
      exact sat_ret ⟨Nat.le_refl _, by omega, U, fun _ => q⟩
    | false =>
      rw [if_neg (by decide)]
      refine (s_asc O P f (m + 1) (by omega) (by omega) (up_succ O P (by omega) h1 U (lp_tri O P (by omega) (by omega) (by omega) q))).imp fun r ⟨a1, a2, a3, a4⟩ => ⟨by omega, by omega, a3, fun z => a4 (by omega)⟩
theorem s_desc (O : Ord lt n) {p : Array Nat} (P : Pm n p) : ∀ (f m : Nat), 1 ≤ m → m + f ≤ n → Dn lt p m → Sat lt n (kas_desc f p m 0) fun r => r.1 = p ∧ m ≤ r.2.1 ∧ r.2.1 ≤ m + f ∧ r.2.2 = 0 ∧ Dn lt p r.2.1
  | 0, m, h1, _, U => sat_ret ⟨rfl, Nat.le_refl _, Nat.le_refl _, rfl, U⟩
  | f + 1, m, h1, hn, U => by
    unfold kas_desc
    refine sat_ask (P.below (by omega)) (P.below (by omega)) (P.ne (by omega) (by omega) (by omega)) ?_
    cases q : lt (p.getD m 0) (p.getD (m - 1) 0) with
    | true =>
      rw [if_pos rfl, if_neg (by decide)]
      exact (s_desc O P f (m + 1) (by omega) (by omega) (dn_succ O P (by omega) h1 U q)).imp fun r hq1 => by obtain ⟨a1, a2, a3, a4, a5⟩ := hq1; exact ⟨a1, by omega, by omega, a4, a5⟩
    | false =>
      rw [if_neg (by decide)]
      refine sat_ask (P.below (by omega)) (P.below (by omega)) (P.ne (by omega) (by omega) (by omega)) ?_
      have q' : lt (p.getD (m - 1) 0) (p.getD m 0) = true := lp_tri O P (i := m) (j := m - 1) (by omega) (by omega) (by omega) q
      rw [q', if_pos rfl]
      exact sat_ret ⟨rfl, Nat.le_refl _, by show m ≤ _; omega, rfl, U⟩
theorem pm_rev {p : Array Nat} (P : Pm n p) (i j : Nat) : Pm n (kas_rev p i j) := (Array.perm_iff_toList_perm.mp (mirror_perm p i j ((j - i) / 2))).trans P
theorem getD_get? {p q : Array Nat} {i j : Nat} (h : p[i]? = q[j]?) : p.getD i 0 = q.getD j 0 := by
  rw [Array.getD_eq_getD_getElem?, Array.getD_eq_getD_getElem?, h]
theorem rev_at {p : Array Nat} {m k : Nat} (hm : m ≤ p.size) (hk : k < m) : (kas_rev p 0 m).getD k 0 = p.getD (m - 1 - k) 0 := by
  have e := getElem?_mirror_all (i := 0) hm k
  rw [if_pos ⟨Nat.zero_le _, hk⟩] at e
  have := getD_get? e
  rw [show 0 + m - 1 - k = m - 1 - k by omega] at this
  exact this
theorem s_tail3 (O : Ord lt n) {p : Array Nat} (P : Pm n p) {m : Nat} (h1 : 1 ≤ m) (hm : m ≤ n) (D : Dn lt p m) : Sat lt n (kas_tail3 m n p) fun r => Pm n r.2 ∧ 1 ≤ r.1 ∧ r.1 ≤ n ∧ Up lt r.2 r.1 := by
  unfold kas_tail3
  have U : Up lt (kas_rev p 0 m) m := fun i j hij hj => by
    unfold Lp
    rw [rev_at (by rw [P.size]; exact hm) (by omega), rev_at (by rw [P.size]; exact hm) hj]
    exact D (m - 1 - j) (m - 1 - i) (by omega) (by omega)
  exact sat_bind ((s_asc O (pm_rev P 0 m) (n - m) m h1 (by omega) U).imp fun r ⟨a1, a2, a3, _⟩ => sat_ret ⟨pm_rev P 0 m, by show 1 ≤ r; omega, by show r ≤ n; omega, a3⟩)
theorem s_count (O : Ord lt n) {p : Array Nat} (P : Pm n p) (h1 : 1 ≤ n) : Sat lt n (kas_count n p) fun r => Pm n r.2 ∧ 1 ≤ r.1 ∧ r.1 ≤ n ∧ Up lt r.2 r.1 := by
  unfold kas_count
  refine sat_bind ((s_asc O P (n - 1) 1 (Nat.le_refl _) (by omega) (fun i j a b => by omega)).imp fun r ⟨a1, a2, a3, a4⟩ => ?_)
  by_cases e : r = n
  · rw [if_pos (by simp [e])]
    exact sat_ret ⟨P, a1, by show r ≤ n; omega, a3⟩
  · rw [if_neg (by simp [e])]
    by_cases g : r > 1
    · rw [if_pos g]
      refine sat_ask (P.below (by omega)) (P.below (by omega)) (P.ne (by omega) (by omega) (by omega)) ?_
      have q : lt (p.getD 0 0) (p.getD (r - 1) 0) = true := a3 0 (r - 1) (by omega) (by omega)
      rw [q, if_pos rfl]
      exact sat_ret ⟨P, a1, by show r ≤ n; omega, a3⟩
    · rw [if_neg g]
      obtain rfl : r = 1 := by omega
      unfold kas_descPart
      have q := a4 (by omega)
      have D : Dn lt p 2 := fun i j hij hj => by
        obtain rfl : i = 0 := by omega
        obtain rfl : j = 1 := by omega
        exact q
      refine sat_bind ((s_desc O P (n - (1 + 1)) (1 + 1) (by omega) (by omega) D).imp fun r hq2 => ?_)
      obtain ⟨b1, b2, b3, b4, b5⟩ := hq2
      rw [if_neg (by omega), b1]
      exact s_tail3 O P (by omega) (by omega) b5
theorem s_place (O : Ord lt n) {p : Array Nat} (P : Pm n p) {k : Nat} (hk : k < n) (U : Up lt p k) : ∀ (f l r : Nat), l ≤ r → r ≤ k → r - l ≤ f → (∀ j, j < l → Lp lt p j k = true) → (∀ j, r ≤ j → j < k → Lp lt p k j = true) →
    Sat lt n (kas_place p k f l r) fun x => x ≤ k ∧ (∀ j, j < x → Lp lt p j k = true) ∧ ∀ j, x ≤ j → j < k → Lp lt p k j = true
  | 0, l, r, h1, h2, h3, h4, h5 => sat_ret ⟨by omega, h4, fun j a b => h5 j (by omega) b⟩
  | f + 1, l, r, h1, h2, h3, h4, h5 => by
    unfold kas_place
    by_cases g : l ≥ r
    · rw [if_pos g]
      exact sat_ret ⟨by omega, h4, fun j a b => h5 j (by omega) b⟩
    · rw [if_neg g]
      have m1 : l ≤ (l + r) / 2 := by omega
      have m2 : (l + r) / 2 < r := by omega
      refine sat_ask (P.below hk) (P.below (by omega)) (P.ne hk (by omega) (by omega)) ?_
      cases q : lt (p.getD k 0) (p.getD ((l + r) / 2) 0) with
      | true =>
        rw [if_pos rfl]
        refine s_place O P hk U f l _ m1 (by omega) (by omega) h4 fun j a b => ?_
        rcases Nat.lt_or_ge ((l + r) / 2) j with z | z
        · exact lp_tr O P hk (by omega) (by omega) q (U _ j z b)
        · obtain rfl : j = (l + r) / 2 := by omega
          exact q
      | false =>
        rw [if_neg (by decide)]
        have q' : Lp lt p ((l + r) / 2) k = true := lp_tri O P hk (by omega) (by omega) q
        refine s_place O P hk U f _ r (by omega) h2 (by omega) (fun j a => ?_) h5
        rcases Nat.lt_or_ge j ((l + r) / 2) with z | z
        · exact lp_tr O P (by omega) (by omega) hk (U j _ z (by omega)) q'
        · obtain rfl : j = (l + r) / 2 := by omega
          exact q'
theorem pm_bub {p : Array Nat} (P : Pm n p) (k d : Nat) : Pm n (bubble p k d) := (Array.perm_iff_toList_perm.mp (bubble_perm p k d)).trans P
theorem s_bin (O : Ord lt n) : ∀ (f : Nat) (p : Array Nat) (k : Nat), Pm n p → k + f = n → Up lt p k → Sat lt n (kas_bin f p k) fun q => Pm n q ∧ Up lt q n
  | 0, p, k, P, h, U => by
    obtain rfl : k = n := by omega
    exact sat_ret ⟨P, U⟩
  | f + 1, p, k, P, h, U => by
    unfold kas_bin
    have hk : k < n := by omega
    refine sat_bind ((s_place O P hk U k 0 k (Nat.zero_le _) (Nat.le_refl _) (by omega) (fun j a => by omega) (fun j a b => by omega)).imp fun l ⟨a1, a2, a3⟩ => ?_)
    refine s_bin O f _ (k + 1) (pm_bub P k (k - l)) (by omega) fun i j hij hj => ?_
    have at' : ∀ x, (bubble p k (k - l)).getD x 0 = if x = l then p.getD k 0 else if l < x ∧ x ≤ k then p.getD (x - 1) 0 else p.getD x 0 := fun x => by
      have e := getElem?_bubble (xs := p) (src := k) (by rw [P.size]; exact hk) (k - l) (by omega) x
      rw [show k - (k - l) = l by omega] at e
      split
      · rename_i q; rw [if_pos q] at e; exact getD_get? e
      · rename_i q
        rw [if_neg q] at e
        split
        · rename_i q2; rw [if_pos q2] at e; exact getD_get? e
        · rename_i q2; rw [if_neg q2] at e; exact getD_get? e
    show lt _ _ = true
    rw [at', at']
    by_cases e1 : i = l
    · rw [if_pos e1, if_neg (by omega), if_pos (by omega)]
      exact a3 (j - 1) (by omega) (by omega)
    · rw [if_neg e1]
      by_cases e2 : j = l
      · rw [if_pos e2, if_neg (by omega)]
        exact a2 i (by omega)
      · rw [if_neg e2]
        by_cases e3 : l < i ∧ i ≤ k
        · rw [if_pos e3, if_pos (by omega)]
          exact U (i - 1) (j - 1) (by omega) (by omega)
        · rw [if_neg e3]
          by_cases e4 : l < j ∧ j ≤ k
          · rw [if_pos e4]
            exact U i (j - 1) (by omega) (by omega)
          · rw [if_neg e4]
            exact U i j hij (by omega)
theorem s_sort (O : Ord lt n) : Sat lt n (kas_sort n) fun q => Pm n q ∧ Up lt q n := by
  unfold kas_sort
  have P0 : Pm n (List.toArray (List.range n)) := by unfold Pm; exact List.Perm.refl _
  by_cases h0 : n = 0
  · subst h0
    exact ⟨rfl, (by unfold Pm; exact List.Perm.refl _), fun i j _ hj => absurd hj (Nat.not_lt_zero _)⟩
  · refine sat_bind ((s_count O P0 (by omega)).imp fun r ⟨a1, a2, a3, a4⟩ => ?_)
    by_cases g : r.1 < n
    · rw [if_pos g, show max r.1 1 = r.1 by omega]
      exact s_bin O _ _ _ a1 (by omega) a4
    · rw [if_neg g]
      obtain e : r.1 = n := by omega
      exact sat_ret ⟨a1, e ▸ a4⟩
end
end L3

namespace L3
open PySem PySem.Spec PyProof.Rows L2

def InOrd (lt : Nat → Nat → Bool) (is : List Nat) : Prop := is.Pairwise fun i j => lt i j = true
theorem up_ord {lt : Nat → Nat → Bool} {n : Nat} {q : Array Nat} (P : Pm n q) (U : Up lt q n) : InOrd lt q.toList := by
  unfold InOrd
  rw [List.pairwise_iff_getElem]
  intro i j hi hj hij
  have hj' : j < q.size := by simpa using hj
  have hi' : i < q.size := by omega
  have := U i j hij (by rw [← P.size]; exact hj')
  unfold Lp at this
  rw [getD_at hi', getD_at hj'] at this
  exact this
structure SrtK (prog : Program) (w : World) (A : Around) (E : Value → Shared → Prop) (vs : List Value) (lt : Nat → Nat → Bool) (T : Heap → Prop) (κ : SortKind) : Prop where
  kind : ∀ (s : Shared) (Q : SortKind → Shared → Prop), T s.heap → 2 ≤ vs.length → Q κ s → wpAny (model prog w) A (keyKind' vs.toArray) Q E s
  ask : ∀ (s : Shared) (i j : Nat) (C : Bool → Shared → Prop), T s.heap → i < vs.length → j < vs.length → i ≠ j → C (lt i j) s → PySem.W.kas_ask prog w A κ vs i j C s
section
variable {prog : Program} {w : World} {A : Around} {E : Value → Shared → Prop} {s : Shared}
theorem list_sort_ord {a : Addr} {vs : List Value} {lt : Nat → Nat → Bool} {T : Heap → Prop} {κ : SortKind} {n : Nat} {P : PySem.Fin → Shared → Prop} (hob : s.heap.get? a = some (seqObj "list" vs.toArray n)) (O : Ord lt vs.length) (hT : T s.heap)
    (hst : ∀ h', (∀ x o, s.heap.get? x = some o → x ≠ a → h'.get? x = some o) → T h') (K : SrtK prog w A E vs lt T κ) (h64 : vs.length < 64)
    (h : ∀ is : List Nat, is.Perm (List.range vs.length) → InOrd lt is → P (.done (.ret .none)) { s with heap := sortedHeap s.heap a vs (is.map fun i => vs.getD i Value.none).toArray }) : wpAny (model prog w) A (Builtin.«list.sort» ⟨[.ref a], []⟩) P E s := by
  have hal : a < s.heap.objs.size := Heap.lt_size hob
  have hln : vs.length ≤ sizeLine := by rw [sizeLine_eq]; omega
  rw [list_sort_plain]
  refine wpAny_bind (listItems_at (n := n) hob rfl ?_)
  refine wpAny_bind (listUpdate_at (n := n) hob rfl ?_ (by rw [List.size_toArray]; exact hln) (Nat.zero_le _))
  obtain ⟨ea, hoa⟩ : ∃ ea, (s.heap.update a (Obj.mapSeq fun _ => #[])).get? a = some (seqObj "list" #[] ea) := ⟨_, get?_update_seq hob (fun _ => #[])⟩
  refine wpAny_bind (seqEpoch_at (n := ea) hoa rfl ?_)
  refine wpAny_bind (wpAny_newTuple ?_ (by simpa using hln))
  refine wpAny_bind (wpAny_newList ?_ (Nat.zero_le _))
  refine wpAny_holding (m := _) ?_
  have hob2 : (((s.heap.update a (Obj.mapSeq fun _ => #[])).push (seqObj "tuple" vs.toArray 0)).push (seqObj "list" #[] 0)).get? a = some (seqObj "list" #[] ea) := by
    refine Eq.trans (Heap.get?_push_ne _ _ _ ?_) (Eq.trans (Heap.get?_push_ne _ _ _ ?_) hoa)
    · rw [size_push', Heap.size_update]; exact Nat.ne_of_lt (Nat.lt_succ_of_lt hal)
    · rw [Heap.size_update]; exact Nat.ne_of_lt hal
  have T2 : T (((s.heap.update a (Obj.mapSeq fun _ => #[])).push (seqObj "tuple" vs.toArray 0)).push (seqObj "list" #[] 0)) := hst _ fun x o hx hxa => by
    have hlt := Heap.lt_size hx
    refine Eq.trans (Heap.get?_push_ne _ _ _ ?_) (Eq.trans (Heap.get?_push_ne _ _ _ ?_) (Eq.trans (Heap.get?_update_ne _ _ _ _ hxa) hx))
    · rw [size_push', Heap.size_update]; exact Nat.ne_of_lt (Nat.lt_succ_of_lt hlt)
    · rw [Heap.size_update]; exact Nat.ne_of_lt hlt
  show wpAny (model prog w) A _ P E ({ s with heap := ((s.heap.update a (Obj.mapSeq fun _ => #[])).push (seqObj "tuple" vs.toArray 0)).push (seqObj "list" #[] 0) } : Shared)
  dsimp only
  have hsv : vs.toArray.size = vs.length := List.size_toArray ..
  by_cases hfew : vs.toArray.size < 2
  · rw [if_pos hfew, if_pos hfew]
    refine wpAny_bind (wpAny_pure (α := _) ?_)
    rw [StateT.run_pure]
    refine wpAny_bind (wpAny_pure (α := _) ?_)
    dsimp only
    refine wpAny_bind (seqEpoch_at (n := ea) hob2 rfl ?_)
    have eo : (arrOf (SortSt.mk' general' (vs.toArray.zip vs.toArray) #[] 7 none)).map (·.2) = ((List.range vs.length).map fun i => vs.getD i Value.none).toArray := by
      show (vs.toArray.zip vs.toArray).map (·.2) = _
      apply Array.toList_inj.mp
      apply List.ext_getElem
      · simp
      · intro i q1 q2
        have : i < vs.length := by simpa using q2
        simp [this]
    rw [eo]
    refine wpAny_bind (listUpdate_at (n := ea) hob2 rfl ?_ (Nat.zero_le _) ?_)
    · simp only [bne_self_eq_false, Bool.false_eq_true, if_false]
      refine wpAny_pure (α := _) (h _ (.refl _) ?_)
      unfold InOrd
      rw [List.pairwise_iff_getElem]
      intro i j hi hj hij
      have : j < vs.length := by simpa using hj
      omega
    · simp; omega
  · rw [if_neg hfew, if_neg hfew]
    refine wpAny_bind (K.kind _ _ T2 (by omega) ?_)
    obtain ⟨ok, Pq, Uq⟩ := s_sort O
    show wpAny _ _ (StateT.run sortRuns' (SortSt.mk' κ (vs.toArray.zip vs.toArray) #[] 7 none) >>= _) _ _ _
    refine wpAny_bind (wpAny_mono (PySem.W.kat_run (Q := fun st' s' => ∃ p : Array Nat, p.size = vs.length ∧ arrOf st' = p.map (PySem.W.kas_item (vs.toArray.zip vs.toArray)) ∧ failedOf st' = none ∧ p = evT lt (PySem.W.kas_sort vs.length) ∧ s' = { s with heap := ((s.heap.update a (Obj.mapSeq fun _ => #[])).push (seqObj "tuple" vs.toArray 0)).push (seqObj "list" #[] 0) })
      (G := fun p s' => p = evT lt (PySem.W.kas_sort vs.length) ∧ s' = { s with heap := ((s.heap.update a (Obj.mapSeq fun _ => #[])).push (seqObj "tuple" vs.toArray 0)).push (seqObj "list" #[] 0) })
      rfl (by omega) (by omega) (fun p st' s' a1 a2 a3 a4 => ⟨p, a1, a2, a3, a4⟩) ?_) ?_ fun _ _ y => y)
    · exact wp_evT (fun i j C hi hj hij hC => K.ask _ i j C T2 hi hj hij hC) _ _ ok ⟨rfl, rfl⟩
    · rintro ⟨⟨⟩, st'⟩ s' ⟨p, hp, har, hf, rfl, rfl⟩
      dsimp only
      have eo := PySem.W.kat_snds (vs := vs) rfl har
      rw [eo]
      refine wpAny_bind (seqEpoch_at (n := ea) hob2 rfl ?_)
      refine wpAny_bind (listUpdate_at (n := ea) hob2 rfl ?_ (Nat.zero_le _) ?_)
      · rw [hf]
        simp only [bne_self_eq_false, Bool.false_eq_true, if_false]
        exact wpAny_pure (α := _) (h _ Pq (up_ord Pq Uq))
      · exact Nat.le_trans (Nat.le_of_eq (size_sort hp)) (by omega)
theorem sorted_ord {src : Value} {Q : Value → Shared → Prop}
    (hc : wpAny (model prog w) A.in1 (collect src) (fun vs s1 => ∃ lt T κ, Ord lt vs.length ∧ vs.length < 64 ∧ SrtK prog w A.in1.in1 E vs lt T κ ∧ (∀ h2 : Heap, (∀ x o, s1.heap.get? x = some o → h2.get? x = some o) → T h2) ∧
      ∀ (l : Addr) (h' : Heap) (is : List Nat) e, s1.heap.objs.size ≤ l → is.Perm (List.range vs.length) → InOrd lt is → h'.get? l = some (seqObj "list" (is.map fun i => vs.getD i Value.none).toArray e) → (∀ b ob, s1.heap.get? b = some ob → h'.get? b = some ob) → Q (.ref l) { s1 with heap := h' }) E s) :
    wpAny (model prog w) A (call (.builtin "sorted") [src]) Q E s := by
  refine Calls.call_function_entry kind_sorted plain_sorted entry_sorted (args_sorted1 _) (show wpAny _ _ (Builtin.«sorted» _) _ _ _ from ?_)
  unfold Builtin.«sorted»
  refine wpAny_bind (m := checkCount "sorted" 1 1 _) (wpAny_pure (α := _) ?_)
  refine wpAny_bind (m := collect _) (wpAny_mono hc (fun vs s1 hqq => ?_) fun _ _ y => y)
  obtain ⟨lt, T, κ, O, h64, K, hT2, h⟩ := hqq
  have hln : vs.length ≤ sizeLine := by rw [sizeLine_eq]; omega
  refine wpAny_bind (wpAny_newList ?_ hln)
  have hoL : (s1.heap.push (seqObj "list" vs.toArray 0)).get? s1.heap.objs.size = some (seqObj "list" vs.toArray 0) := Heap.get?_push_size _ rfl
  refine wpAny_bind (m := holding _ _) (wpAny_holding (vs := [_]) (wpAny_call_entry slot_list_sort ⟨_, hoL, rfl⟩ entry_list_sort (list_sort_ord (T := T) hoL O (hT2 _ fun x o e => Heap.get?_push_of_some _ e) (fun h' k => hT2 _ fun x o e => k x o (Heap.get?_push_of_some _ e) (Nat.ne_of_lt (Heap.lt_size e))) K h64 fun is a1 a2 => ⟨_, rfl, ?_⟩) (args_list_sort _)))
  refine wpAny_pure (α := _) ⟨_, rfl, ?_⟩
  obtain ⟨e, he⟩ := sh_at (vs := vs) (out := (is.map fun i => vs.getD i Value.none).toArray) hoL
  refine h s1.heap.objs.size _ is e (Nat.le_refl _) a1 a2 he fun b ob eb => ?_
  exact sh_old (Heap.get?_push_of_some _ eb) (Nat.ne_of_lt (Heap.lt_size eb))
end
end L3

namespace L3
open PySem PySem.Spec PyProof.Rows L2

def ltT (a b : Str) : Bool := decide (a.cps.toList < b.cps.toList)
theorem ltT_irr (a : Str) : ltT a a = false := by unfold ltT; simpa using List.lt_irrefl a.cps.toList
theorem ltT_tr {a b c : Str} (h1 : ltT a b = true) (h2 : ltT b c = true) : ltT a c = true := by
  unfold ltT at *; simp only [decide_eq_true_eq] at *; exact List.lt_trans h1 h2
theorem ltT_tri {a b : Str} (h1 : ltT a b = false) (h2 : a ≠ b) : ltT b a = true := by
  unfold ltT at *
  simp only [decide_eq_false_iff_not, decide_eq_true_eq] at *
  cases q : decide (b.cps.toList < a.cps.toList) with
  | true => exact of_decide_eq_true q
  | false =>
    have := List.le_antisymm (List.not_lt.mp h1) (List.not_lt.mp (of_decide_eq_false q))
    exact absurd (by cases a; cases b; simp at this; rw [this]) h2
def ltX (xs : List Str) (i j : Nat) : Bool := ltT (xs.getD i Str.empty) (xs.getD j Str.empty)
theorem getD_lt {α : Type} {xs : List α} {i : Nat} {d : α} (h : i < xs.length) : xs.getD i d = xs[i] := by
  rw [List.getD_eq_getElem?_getD, List.getElem?_eq_getElem h]; rfl
def pick {α : Type} (d : α) (xs : List α) (is : List Nat) : List α := is.map fun i => xs.getD i d
theorem pik_perm {α : Type} {d : α} {xs : List α} {is : List Nat} (h : is.Perm (List.range xs.length)) : (pick d xs is).Perm xs := by
  have e : (List.range xs.length).map (fun i => xs.getD i d) = xs := by
    apply List.ext_getElem
    · simp
    · intro i q1 q2
      simp only [List.getElem_map, List.getElem_range]
      exact getD_lt q2
  have := h.map fun i => xs.getD i d
  rw [e] at this
  exact this
def keyF : Value → Key | .int i _ => .inl i | .str x _ => .inr x | _ => .inl 0
def metT (xs : List Str) : List Str := (metK (fun i => (Sum.inr (xs.getD i Str.empty) : Key)) xs.length).map fun k => match k with | .inr x => x | .inl _ => Str.empty
def setT (P : Program) (w : World) (a : Addr) (xs : List Str) : HO := .ext fun h => SetI (mixKind P w) keyF (ledOf w) h a ((metT xs).map Sum.inr)
def rSetT (X : Cx) : List V → Hp → VK → Prop := fun vs H Q => ∃ (p : Addr) (xs : List Str), vs = [.ref p] ∧ SqL X.K H p (xs.map .str) ∧ xs.length + 1 < scanBound ∧ ∀ q, H q = none → Q (.ref q) (upd H q (setT X.prog X.w q xs))
def rSrtT (X : Cx) : List V → Hp → VK → Prop := fun vs H Q => ∃ (q : Addr) (xs : List Str), vs = [.ref q] ∧ H q = some (setT X.prog X.w q xs) ∧ (metT xs).length < 64 ∧
  ∀ (l : Addr) (ms : List Str), H l = none → ms.Perm (metT xs) → ms.Pairwise (fun a b => ltT a b = true) → Q (.ref l) (upd H l (.lst (ms.map .str)))
def strsD : List D → Option (List Str)
  | [] => some []
  | .str x :: r => (strsD r).map (x :: ·)
  | _ :: _ => none
theorem strs_vals {K : PySem.W.Frag} {F : Hp} : ∀ {ds : List D} {vs : List V} {xs : List Str}, Reps K F ds vs → strsD ds = some xs → vs = xs.map .str
  | [], vs, xs, r, h => by unfold Reps at r; cases h; subst r; rfl
  | d :: ds, vs, xs, r, h => by
    unfold Reps at r
    obtain ⟨v, us, rfl, r1, r⟩ := r
    cases d with
    | str x =>
      unfold strsD at h
      unfold Rep at r1
      subst r1
      cases q : strsD ds with
      | none => rw [q] at h; cases h
      | some ms => rw [q] at h; cases h; rw [strs_vals r q]; rfl
    | _ => cases h
def n_ssetT : List D → (List D → Prop) → Prop := fun ds P => match ds with
  | [.lst xs] => ∃ ns, strsD xs = some ns ∧ ns.length < 4095 ∧ (metT ns).length < 64 ∧ ∀ ms : List Str, ms.Pairwise (fun a b => ltT a b = true) → (∀ i, i ∈ ms ↔ i ∈ ns) → P (ms.map .str)
  | _ => False
section
variable {X : Cx} {F0 H0 : Hp} {a e : Expr} {pos p pos2 p2 : Pos} {t : TF2}
end
end L3

namespace L3
open PySem PySem.Spec PyProof.Rows L2
open PySem.AutoSeq1 (wpAny_loadPart')
open PySem.MeetsSeq PySem.MeetsSeq3 in
open PySem.MeetsSeq PySem.MeetsSeq3 in
def HdT (h : Heap) (v : Value) (x : Str) : Prop := ∃ a its t, v = .ref a ∧ PlainL h a its ∧ its[0]? = some (.str x t)
def gl (g : List Str) : D := .lst (g.map .str)
def hdS (g : List Str) : Str := g.headD Str.empty
def n_srtL : List D → (List D → Prop) → Prop := fun ds P => match ds with
  | [.lst xs] => ∃ gs : List (List Str), xs = gs.map gl ∧ (∀ g ∈ gs, g ≠ []) ∧ (gs.map hdS).Nodup ∧ gs.length < 64 ∧
      ∀ ms : List (List Str), ms.Perm gs → ms.Pairwise (fun a b => ltT (hdS a) (hdS b) = true) → P (ms.map gl)
  | _ => False
end L3

namespace L3
open PySem PySem.Spec PyProof.Rows L2
open PySem.AutoSeq1 (wpAny_loadPart')

def n_listD : List D → (List D → Prop) → Prop := fun ds P => match ds with | [.dic ks _] => P (ks.map keyD) | _ => False
end L3

namespace L3
open PySem PySem.Spec PyProof.Rows L2

def Itw (a : Addr) (o : Obj) (kvs : List (Key × V)) : It := ⟨fun i H => H a = some (.frz o (.dK kvs)) ∧ i < kvs.length, fun i H x H' => H' = H ∧ ∃ k, kvs[i]? = some (k, x), fun i H => H a = some (.frz o (.dK kvs)) ∧ kvs.length ≤ i⟩
def iVals (te : TE) : TI := fun σ H R => te σ H fun v H1 => ∃ a kvs, v = .ref a ∧ H1 a = some (.dK kvs) ∧ (kvs.length ≤ sizeLine → ∀ o, R (Itw a o kvs) (upd H1 a (.frz o (.dK kvs))))
section
variable {K : PySem.W.Frag} {F0 H0 F H : Hp} {σ : St} {Γ : List Slot}
end
def i_values (tn : TN2) : TF2 := fun Γ P E => tn Γ (fun t Γ1 => match t with | .dic _ ts => P (toDs ts) Γ1 | _ => False) E
section
variable {X : Cx} {F0 H0 : Hp} {e tg : Expr} {apos cpos : Pos} {tn : TN2}
open Classical in
end
end L3

namespace L3
open PySem PySem.Spec PyProof.Rows L2

theorem rep_keyD {K : PySem.W.Frag} {F : Hp} {k : Key} {v : V} (h : Rep K F (keyD k) v) : v = kV k := by
  cases k with
  | inl i => unfold keyD Rep at h; exact h
  | inr x => unfold keyD Rep at h; exact h
def cDNI (i : Nat) (tk : TE2) : TT2 := fun Γ P E => tk Γ (fun kd Γ1 => ∃ k as ks ts, kd = keyD k ∧ Γ1[i]? = some (.tr as (.dic ks ts)) ∧ P (!hasK ks k) Γ1) E
def cDPN (i j : Nat) (tn : TN2) : TS2 := fun D Γ E => tn Γ (fun t Γ1 => ∃ k as ks ts, Γ1[j]? = some (.pu (keyD k)) ∧ Γ1[i]? = some (.tr as (.dic ks ts)) ∧ hasK ks k = false ∧ ks.length < sizeLine ∧ ∀ cs, D.nx (Γ1.set i (.tr (as ++ cs) (.dic (ks ++ [k]) (ts ++ [t]))))) E
def cDP2 (i j l : Nat) (tv : TE2) : TS2 := fun D Γ E => tv Γ (fun d Γ1 => ∃ k k2 as ks ts q ks2 xs, Γ1[j]? = some (.pu (keyD k)) ∧ Γ1[l]? = some (.pu (keyD k2)) ∧ Γ1[i]? = some (.tr as (.dic ks ts)) ∧ ks.Nodup ∧ ks[q]? = some k ∧
  ts[q]? = some (.dic ks2 (xs.map .leaf)) ∧ ks2.length < sizeLine ∧ D.nx (Γ1.set i (.tr as (.dic ks (ts.set q (.dic (putKs ks2 k2) ((putXs ks2 xs k2 d).map .leaf))))))) E
section
variable {X : Cx} {F0 H0 : Hp} {ke value : Expr} {pos npos npos2 npos3 pos' pos2 : Pos} {x y w : Str} {i j l : Nat} {tk tv : TE2} {tn : TN2}
end
end L3

namespace L3
open PySem PySem.Spec PyProof.Rows L2
def cTClr (i : Nat) : TS2 := fun D Γ _ => ∃ as ts, Γ[i]? = some (.tr as (.lst ts)) ∧ D.nx (Γ.set i .no)
section
variable {X : Cx} {F0 H0 : Hp} {pos npos apos cpos : Pos} {x : Str} {i : Nat}
end
end L3

namespace L3
open PySem PySem.Spec PyProof.Rows L2

abbrev SpM := T → List D → (T → D → Prop) → (T → Value → Prop) → Prop
def hideA (as : List Addr) (H : Hp) : Hp := fun b => if b ∈ as then none else H b
theorem hideA_sub {as : List Addr} {H : Hp} : Same (hideA as H) H := fun b u e => by
  unfold hideA at e
  split at e
  · cases e
  · exact e
theorem hideA_in {as : List Addr} {H : Hp} {b : Addr} (h : b ∈ as) : hideA as H b = none := by unfold hideA; rw [if_pos h]
theorem hideA_out {as : List Addr} {H : Hp} {b : Addr} (h : b ∉ as) : hideA as H b = H b := by unfold hideA; rw [if_neg h]
theorem TR.root {K : PySem.W.Frag} {F H : Hp} : ∀ {t : T} {v : V} {a : Addr} {cs : List Addr}, TR K F H t v (a :: cs) → v = .ref a
  | .leaf _, _, _, _, h => by unfold TR at h; cases h.1
  | .lst _, _, _, _, h => by unfold TR at h; obtain ⟨b, _, _, rfl, e, _⟩ := h; cases e; rfl
  | .dic _ _, _, _, _, h => by unfold TR at h; obtain ⟨b, _, _, rfl, e, _⟩ := h; cases e; rfl
  | .dit _ _, _, _, _, h => by unfold TR at h; obtain ⟨b, _, _, rfl, e, _⟩ := h; cases e; rfl
  | .ob _ _ _, _, _, _, h => by unfold TR at h; obtain ⟨b, _, _, _, rfl, e, _⟩ := h; cases e; rfl
  | .kt _, _, _, _, h => by unfold TR at h; cases h.1
def spUpM (K : PySem.W.Frag) (sp : SpM) : Sp := fun vs H Q E => ∃ F a bs t ds rest P Ex, vs = V.ref a :: rest ∧ Same F H ∧ (a :: bs).Nodup ∧ (∀ b ∈ a :: bs, F b = none) ∧ TR K F H t (.ref a) (a :: bs) ∧ Reps K F ds rest ∧ sp t ds P Ex ∧
  (∀ t' d v cs F' H', Gr F (hideA (a :: bs) H) F' H' → (a :: cs).Nodup → (∀ b ∈ a :: cs, F' b = none ∧ hideA (a :: bs) H b = none) → TR K F' H' t' (.ref a) (a :: cs) → Rep K F' d v → P t' d → Q v H') ∧
  ∀ C t' cs F' H', Gr F (hideA (a :: bs) H) F' H' → (a :: cs).Nodup → (∀ b ∈ a :: cs, F' b = none ∧ hideA (a :: bs) H b = none) → TR K F' H' t' (.ref a) (a :: cs) → Ex t' C → E C none H'
def startM (n : Nat) (s : Slot) (ds : List D) : G2 := s :: (ds.map .pu ++ List.replicate (n - 1 - ds.length) .no)
theorem sr_startM {K : PySem.W.Frag} {F0 H : Hp} {N : List Str} {a : Addr} {bs : List Addr} {t : T} {ds : List D} {vs : List V} (h : Same F0 H) (nd : (a :: bs).Nodup) (hn : ∀ b ∈ a :: bs, F0 b = none) (rt : TR K F0 H t (.ref a) (a :: bs)) (r : Reps K F0 ds vs) :
    SR K F0 (hideA (a :: bs) H) F0 H (L2.start N (.ref a :: vs)) (startM N.length (.tr (a :: bs) t) ds) := by
  have hl := reps_len r
  have slot : ∀ (i : Nat) s, (startM N.length (.tr (a :: bs) t) ds)[i]? = some s → ∃ o, (L2.start N (V.ref a :: vs))[i]? = some o ∧ SlotR K F0 H (hideA (a :: bs) H) s o ∧ (i ≠ 0 → ∀ o c, ¬ Own1 s o c) := fun i s e => by
    unfold startM at e
    unfold L2.start
    cases i with
    | zero => cases e; exact ⟨_, rfl, ⟨_, rfl, nd, fun b hb => ⟨hn b hb, hideA_in hb⟩, rt⟩, fun z => absurd rfl z⟩
    | succ i =>
      simp only [List.getElem?_cons_succ] at e
      simp only [List.map_cons, List.cons_append, List.getElem?_cons_succ]
      by_cases hi : i < ds.length
      · rw [List.getElem?_append_left (by simpa using hi), List.getElem?_map] at e
        cases q : ds[i]? with
        | none => rw [q] at e; cases e
        | some d =>
          rw [q] at e; cases e
          obtain ⟨v, e1, r1⟩ := reps_get r q
          refine ⟨some v, ?_, ⟨v, rfl, r1⟩, fun _ _ _ z => z⟩
          rw [List.getElem?_append_left (by rw [List.length_map, ← hl]; exact hi), List.getElem?_map, e1]; rfl
      · rw [List.getElem?_append_right (by simpa using hi), List.getElem?_replicate] at e
        split at e
        · cases e
          rename_i hlt
          simp only [List.length_map] at hlt
          refine ⟨none, ?_, trivial, fun _ _ _ z => z⟩
          rw [List.getElem?_append_right (by rw [List.length_map, ← hl]; omega), List.getElem?_replicate, if_pos (by simp only [List.length_map, List.length_cons]; omega)]
        · cases e
  refine ⟨⟨.refl _, h, hideA_sub, fun b o e n => by rw [e] at n; cases n⟩, by simp [L2.start, startM, hl]; omega, fun i s e => ?_, fun i j c ⟨s, o, e, _, hs⟩ ⟨s', o', e', _, hs'⟩ => ?_⟩
  · obtain ⟨o, h1, h2, _⟩ := slot i s e
    exact ⟨o, h1, h2⟩
  · by_cases hi : i = 0
    · by_cases hj : j = 0
      · rw [hi, hj]
      · obtain ⟨_, _, _, h3⟩ := slot j s' e'
        exact (h3 hj _ _ hs').elim
    · obtain ⟨_, _, _, h3⟩ := slot i s e
      exact (h3 hi _ _ hs).elim
section
variable {K : PySem.W.Frag} {F0 H0 F H F' H' : Hp} {σ : St} {Γ : List Slot}
theorem SR.back {i : Nat} {a : Addr} {bs cs : List Addr} {t t' : T} (R : SR K F0 H0 F H σ Γ) (e : Γ[i]? = some (.tr (a :: bs) t)) (gr : Gr F (hideA (a :: bs) H) F' H') (nd : (a :: cs).Nodup) (hn : ∀ b ∈ a :: cs, F' b = none ∧ hideA (a :: bs) H b = none) (rt : TR K F' H' t' (.ref a) (a :: cs)) :
    SR K F0 H0 F' H' σ (Γ.set i (.tr (a :: cs) t')) := by
  obtain ⟨o, e1, v, rfl, nd0, hn0, rt0⟩ := R.sl i _ e
  have hv := rt0.root
  subst hv
  have R0 := R.dropAt e1
  have sub0 : Same H0 (hideA (a :: bs) H) := fun b u q => by rw [hideA_out fun hb => by rw [(hn0 b hb).2] at q; cases q]; exact R.gr.h b u q
  have R1 : SR K F0 H0 F (hideA (a :: bs) H) σ (Γ.set i .no) := by
    refine ⟨⟨R0.gr.f, fun b u q => ?_, sub0, fun b o q n => R0.gr.n b o q n⟩, R0.len, fun j s' q => ?_, R0.ap⟩
    · rw [hideA_out fun hb => by rw [(hn0 b hb).1] at q; cases q]; exact R0.g b u q
    · obtain ⟨o, p1, p2⟩ := R0.sl j s' q
      refine ⟨o, p1, slotR_move p2 (.refl _) fun b hb => ⟨(own1_of p2 hb).1, fun u q' => ?_⟩⟩
      rw [hideA_out fun hm => R.less e e1 (show Own1 (Slot.tr (a :: bs) t) (some (.ref a)) b from hm) j ⟨s', o, q, p1, hb⟩]; exact q'
  have R2 := (R1.grow gr).put i (s := .tr (a :: cs) t') (o := some (.ref a)) ⟨_, rfl, nd, fun b hb => ⟨(hn b hb).1, sub0.free (hn b hb).2⟩, rt⟩ fun b hb => R1.apart (hn b hb).2
  rw [set_at e1, List.set_set] at R2
  exact R2
end
structure Fn2M (P : Program) (w : World) (K : PySem.W.Frag) (mg : Str → Option Value) (base : Heap) (x : Str) (k : Nat) (ps : List Str) (sp : SpM) : Prop where
  ex : ∃ f fd, FnOk P w K mg base (CX1 P w) k f fd ps (spUpM K sp) ∧ mg x = some (.ref f) ∧ PySem.W.keepIn K (.ref f) = true ∧ Binds K fd ps []
structure Mt2M (P : Program) (w : World) (K : PySem.W.Frag) (mg : Str → Option Value) (base : Heap) (C : Addr) (m : Str) (k : Nat) (ps : List Str) (sp : SpM) : Prop where
  ex : ∃ f fd, FnOk P w K mg base (CX1 P w) k f fd ps (spUpM K sp) ∧ Meth K C m f ∧ Binds K fd ps []
abbrev finM (a : Addr) (Q : T → D → Prop) : End2 := { nx := fun Γ => ∃ cs t', Γ[0]? = some (.tr (a :: cs) t') ∧ Q t' .non, rt := fun _ => False, rm := fun d Γ => ∃ cs t', Γ[0]? = some (.tr (a :: cs) t') ∧ Q t' d }
abbrev errM (a : Addr) (Ex : T → Value → Prop) : XW := fun Γ C => ∃ cs t', Γ[0]? = some (.tr (a :: cs) t') ∧ Ex t' C
section
variable {P : Program} {w : World} {K : PySem.W.Frag} {mg : Str → Option Value} {base : Heap}
theorem fn2M {x qual p0 : Str} {st : Stmt} {f : Addr} {fd : FuncData} {N ps : List Str} {k : Nat} {sp : SpM} (Fn : Fun K x qual st f fd) (S : FnScope N (p0 :: ps) (defScope st)) (len : ∀ t ds Q E, sp t ds Q E → ds.length = ps.length)
    (hbody : ∀ (cdv : Value) (A : Around) (outer : List Env) (s : Shared) (H : Hp) (E : XK), Room k (A.deeper (envOfC qual (defScope st) s.heap.objs.size f cdv)) → ∀ F0 H0 : Hp,
      ∃ tt, QSs (cxOf (CX1 P w) P w K mg base N qual (defScope st) f cdv A outer s H E) F0 H0 (defBody st) tt ∧ ∀ a bs t ds Q Ex, sp t ds Q Ex → tt (finM a Q) (startM N.length (.tr (a :: bs) t) ds) (errM a Ex)) :
    FnOk P w K mg base (CX1 P w) (k + 1) f fd (p0 :: ps) (spUpM K sp) := by
  obtain ⟨oc, od, kV, doc, pm, an, cdv, ct, osl, rfl, lk, hcd⟩ := Fn.ex
  refine fn_of lk hcd S (fun vs H Q E hh => by
    obtain ⟨F, a, bs, t, ds, rest, P', Ex, ev, _, _, _, _, rs, hs, _⟩ := hh
    rw [ev, List.length_cons, List.length_cons, ← reps_len rs, len _ _ _ _ hs]) fun A outer s H vs Q E hr hh => ?_
  obtain ⟨F0, a, bs, t, ds, rest, Pd, Ex, ev, sF, nd, hn, rt, rs, hsp, hQ, hE⟩ := hh
  subst ev
  obtain ⟨tt, ht, hq⟩ := hbody cdv A outer s H E hr F0 (hideA (a :: bs) H)
  have cx : Ctx ((cxOf (CX1 P w) P w K mg base N qual (defScope st) f cdv A outer s H E).wsh ⟨(cxOf (CX1 P w) P w K mg base N qual (defScope st) f cdv A outer s H E).xe, []⟩) F0 (hideA (a :: bs) H) (errM a Ex) := by
    refine ⟨fun pins σ Γ F H1 s1 e s' I R hx => ?_, PassesOwn.leaving⟩
    refine thn (pass_leave (E := fun C dx H' => E C dx H') I rfl rfl rfl (hx.imp fun C dx H' z => ?_)) fun _ s'' z => z
    obtain ⟨Γ', F', R', _, ⟨cs, t', e0, z1⟩, rfl⟩ := z
    obtain ⟨o, e1, v, rfl, nd', hn', rt'⟩ := R'.sl 0 _ e0
    have hv := rt'.root
    subst hv
    exact hE C t' cs F' H' R'.gr nd' hn' rt' z1
  refine ⟨_, ht _ _ cx, F0, startM N.length (.tr (a :: bs) t) ds, finM a Pd, sr_startM sF nd hn rt rs, hq a bs t ds Pd Ex hsp, ⟨fun Γ F' H' σ R' _ ⟨cs, t', e0, q⟩ => ?_, fun _ _ _ _ _ _ q => q, fun _ _ _ _ _ _ q => q, fun d v F' H' gr rv q => q.elim, fun _ _ _ _ _ _ q => q.elim, fun _ _ _ _ _ _ _ _ _ q => q.elim, fun d v Γ F' H' σ R' rv ⟨cs, t', e0, q⟩ => ?_⟩⟩
  · obtain ⟨o, e1, v, rfl, nd', hn', rt'⟩ := R'.sl 0 _ e0
    have hv := rt'.root
    subst hv
    exact hQ t' .non .non cs F' H' R'.gr nd' hn' rt' (by unfold Rep; rfl) q
  · obtain ⟨o, e1, u, rfl, nd', hn', rt'⟩ := R'.sl 0 _ e0
    have hv := rt'.root
    subst hv
    exact hQ t' d v cs F' H' R'.gr nd' hn' rt' rv q
end
def cRetM (te : TE2) : TS2 := fun D Γ E => te Γ (fun d Γ1 => D.rm d Γ1) E
def cMethO (C : Addr) (m : Str) (i : Nat) (sp : SpM) (t : TF2) : TE2 := fun Γ P E => (∃ as fs ts, Γ[i]? = some (.tr as (.ob C fs ts)) ∧ m ∉ fs) ∧ t Γ (fun ds Γ1 => ∃ a bs tt, Γ1[i]? = some (.tr (a :: bs) tt) ∧ sp tt ds (fun t' d => ∀ cs, P d (Γ1.set i (.tr (a :: cs) t'))) fun t' Cx => ∀ cs, E (Γ1.set i (.tr (a :: cs) t')) Cx) E
def cCallO (i : Nat) (sp : SpM) (t : TF2) : TE2 := fun Γ P E => (∃ a bs tt, Γ[i]? = some (.tr (a :: bs) tt)) ∧ t Γ (fun ds Γ1 => ∃ a bs tt, Γ1[i]? = some (.tr (a :: bs) tt) ∧ sp tt ds (fun t' d => ∀ cs, P d (Γ1.set i (.tr (a :: cs) t'))) fun t' Cx => ∀ cs, E (Γ1.set i (.tr (a :: cs) t')) Cx) E
section
variable {X : Cx} {F0 H0 : Hp} {e : Expr} {es : List Expr} {pos p apos : Pos} {x m : Str} {C f : Addr} {fd : FuncData} {ps : List Str} {k i : Nat} {sp : SpM} {te : TE2} {t : TF2}
theorem qs_retM (he : QE X F0 H0 e te) : QS X F0 H0 (.Return (some e) pos) (cRetM te) := fun z E cx => by
  refine psC (fun pins s σ H D I q => ps_ret (te := fun σ H Q => upE X.K F0 H0 te E σ H Q) (he z E cx) pins s σ H D I q) fun D σ H hq1 => by obtain ⟨F, Γ, D2, R, h, k⟩ := hq1; exact ⟨F, Γ, _, R, h, fun d Γ1 F1 H1 v R1 s1 r1 h1 => k.rm _ _ _ _ _ _ R1 r1 h1⟩
theorem run2M {z : Wsh} {E : XW} {pins : List (Addr × Obj)} {s : Shared} {σ : St} {F H : Hp} {Γ : G2} {us : List Value} {vs : List V} {ds : List D} {a : Addr} {bs : List Addr} {tt : T} {P : D → G2 → Prop} {Q : VK} (Fn : FnOk X.prog X.w X.K X.mg X.base (CX1 X.prog X.w) k f fd ps (spUpM X.K sp)) (hr : Room k X.A) (hb : Binds X.K fd ps []) (cx : Ctx (X.wsh z) F0 H0 E)
    (I : Inv (X.wsh z) pins σ H s) (R : SR X.K F0 H0 F H σ Γ) (r : Vals vs us) (rs : Reps X.K F ds vs) (e0 : Γ[i]? = some (.tr (a :: bs) tt)) (h : sp tt ds (fun t' d => ∀ cs, P d (Γ.set i (.tr (a :: cs) t'))) fun t' Cx => ∀ cs, E (Γ.set i (.tr (a :: cs) t')) Cx)
    (hQ : ∀ d Γ' F' H' v, SR X.K F0 H0 F' H' σ Γ' → Same F F' → Rep X.K F' d v → P d Γ' → Q v H') :
    wpAny (model X.prog X.w) X.A (call (.ref f) (.ref a :: us)) (EP (X.wsh z) pins σ Q) z.xe s := by
  obtain ⟨o, e1, v, rfl, nd, hn, rt⟩ := R.sl i _ e0
  have hv := rt.root
  subst hv
  have hs : spUpM X.K sp (.ref a :: vs) H Q (fun C dx H' => ∃ Γ' F', SR X.K F0 H0 F' H' σ Γ' ∧ Same F F' ∧ E Γ' C ∧ dx = none) :=
    ⟨F, a, bs, tt, ds, vs, _, _, rfl, R.g, nd, fun b hb => (hn b hb).1, rt, rs, h, fun t' d v cs F' H' gr nd' hn' rt' rv hp => hQ d _ F' H' v (R.back e0 gr nd' hn' rt') gr.f rv (hp cs), fun C t' cs F' H' gr nd' hn' rt' hE => ⟨_, F', R.back e0 gr nd' hn' rt', gr.f, hE cs, rfl⟩⟩
  have hl : ((Value.ref a :: us) ++ []).length = ps.length := by
    rw [List.append_nil]
    have := Fn.len _ _ _ _ hs
    rw [List.length_cons, ← r.length, ← List.length_cons (a := V.ref a), this]
  have hbs := hb s (.ref a :: us) I.kIn hl
  rw [List.append_nil] at hbs
  refine wpAny_call (codeAny_mono (Fn.run X.A X.stack s H ⟨.ref a :: us, []⟩ (.ref a :: us) (.ref a :: vs) Q _ hr I.env0 hbs (.cons (show RelV (.ref a) (Value.ref a) from rfl) r) hs) fun r s' hq => ?_)
  cases r with
  | error e => exact cx.pX pins σ Γ F H s e s' I R hq
  | ok fl =>
    cases fl with
    | ret u => exact I.after hq
    | next => exact False.elim hq
    | brk => exact False.elim hq
    | cont => exact False.elim hq
theorem qe_methO {np : Pos} {pl : Sem Bool} (G : Mt2M X.prog X.w X.K X.mg X.base C m k ps sp) (hc : L2.Cls X.K C) (hr : Room k X.A) (hN : X.N[i]? = some x) (hv : Vis X.env.scope x) (ha : QA X F0 H0 (e :: es) t)
    (hd : (x == ("__debug__" : Str)) = false := by decide) (hcd : (x == ("__classdict__" : Str)) = false := by decide)
    (hst : starEach (e :: es) X.env = (false, eval e X.env) :: starEach es X.env := by rfl) (hpl : (backTo pos (starEach es X.env)).any (·.1) = false := by rfl)
    (ht : eval (.Call (.Attribute (.Name x np) m apos) (e :: es) [] pos) X.env = (do
      let ov ← eval (.Name x np) X.env
      standAt apos.atName
      let (f, first) ← holding [ov] (getMethod ov m pl)
      callWith pos f first (backTo pos (starEach (e :: es) X.env)) (backToKw pos (keywordEach [] X.env))) := by rfl) :
    QE X F0 H0 (.Call (.Attribute (.Name x np) m apos) (e :: es) [] pos) (cMethO C m i sp t) := by
  obtain ⟨fa, fd, Fn, hm, hb⟩ := G.ex
  rintro z E cx pins s σ H Q I ⟨F, Γ, P, R, ⟨⟨as, fs, ts, e0, hmf⟩, h⟩, kk⟩
  obtain ⟨o, e1, v, rfl, nd, hn, rt⟩ := R.sl i _ e0
  unfold TR at rt
  obtain ⟨a, dx, vs, bs, rfl, rfl, ea, _, hlf, _, _⟩ := rt
  refine PySem.W.methodCall_KW (pl := pl) (thn (pe_var (X := X.wsh z) (i := i) hN hv hd hcd pins s σ H (fun v H1 => v = .ref a ∧ H1 = H) I ⟨_, e1, rfl, rfl⟩) fun u s1 hqq => ?_) ht
  obtain ⟨x, H1, I1, rx, ex, eH⟩ := hqq
  subst ex eH
  obtain rfl : u = Value.ref a := rx
  refine getmeth_ok I1 ea hc hm (lookup_not hmf) ?_
  refine PySem.W.callWith_K (first := [.ref a]) (h₀ := X.base) I.ok.mod.kin hm.kp (thn (ha z E cx pos pins s1 σ H1 (fun vs H2 => ∃ F2 Γ2 es, SR X.K F0 H0 F2 H2 σ Γ2 ∧ Same F F2 ∧ Reps X.K F2 es vs ∧ ∃ a bs tt, Γ2[i]? = some (.tr (a :: bs) tt) ∧ sp tt es (fun t' d => ∀ cs, P d (Γ2.set i (.tr (a :: cs) t'))) fun t' Cx => ∀ cs, E (Γ2.set i (.tr (a :: cs) t')) Cx) I1 ⟨F, Γ, _, R, h, fun es Γ2 F2 H2 vs R2 s2 r2 h2 => ⟨F2, Γ2, es, R2, s2, r2, h2⟩⟩)
    fun us s2 hqq => ?_) hst hpl
  obtain ⟨ws, H2, I2, r, F2, Γ2, es, R2, sF2, rs2, a', bs', tt, e2, q2⟩ := hqq
  refine ⟨I2.kIn, ?_⟩
  have ha' : a' = a := by
    obtain ⟨o, e3, v, rfl, _, _, rt⟩ := R2.sl i _ e2
    rw [e1] at e3; cases e3
    have := rt.root
    cases this; rfl
  subst ha'
  exact run2M Fn hr hb cx I2 R2 r rs2 e2 q2 fun d Γ' F' H' v R' s' rv hp => kk d Γ' F' H' v R' (sF2.trans s') rv hp
end
end L3

namespace L3
open PySem PySem.Spec PyProof.Rows L2

def RawD (h : Heap) (d : Addr) (es : Array DictEntry) (ep : Nat) : Prop := ∃ o, h.get? d = some o ∧ o.ExactDict ∧ o.data = .dict es ep
theorem RawD.at {h h' : Heap} {d : Addr} {es : Array DictEntry} {ep : Nat} (x : RawD h d es ep) (k : ∀ o, h.get? d = some o → h'.get? d = some o) : RawD h' d es ep := let ⟨o, e, r⟩ := x; ⟨o, k o e, r⟩
theorem RawD.lt {h : Heap} {d : Addr} {es : Array DictEntry} {ep : Nat} (x : RawD h d es ep) : d < h.objs.size := let ⟨_, e, _⟩ := x; Heap.lt_size e
theorem RawD.typeIs {s : Shared} {d : Addr} {es : Array DictEntry} {ep : Nat} (x : RawD s.heap d es ep) : s.TypeIs (.ref d) "dict" := let ⟨o, e, c, _⟩ := x; ⟨o, e, c.1⟩
section
variable {prog : Program} {w : World} {A : Around} {E : Value → Shared → Prop} {s : Shared} {d it : Addr} {es : Array DictEntry} {ep i : Nat}
theorem iter_raw {Q : Value → Shared → Prop} (hd : (d == sysModules) = false) (hm : RawD s.heap d es ep)
    (hQ : Q (.ref s.heap.objs.size) { s with heap := s.heap.push { cls := .type "dict_keyiterator", data := .fields #[.ref d, .int 0 0, .int es.size 0, .int ep 0] } }) : wpAny (model prog w) A (pyIter (.ref d)) Q E s := by
  obtain ⟨o, ho, hc, hdat⟩ := id hm
  have hT := hm.typeIs
  refine wpAny_pyIter_slot hT PySem.F.slot_dict_iter (wpAny_call_entry PySem.F.slot_dict_iter hT PySem.F.entry_dict_iter ?_ (PySem.F.args_dict_iter_1 _))
  unfold Builtin.«dict.__iter__»
  refine wpAny_bind ?_
  unfold Builtin.Dict.dictSlotNone
  refine wpAny_bind (wpAny_notOrdered_dict hT ?_)
  show wpAny _ _ (pure (Value.ref d)) _ _ s
  refine wpAny_pure ?_
  show wpAny _ _ (Builtin.Dict.showsAll d >>= _) _ _ s
  unfold Builtin.Dict.showsAll
  rw [if_neg (by rw [hd]; exact Bool.false_ne_true)]
  refine wpAny_bind (wpAny_pure ?_)
  refine wpAny_bind (wpAny_dictEntries ho hdat ?_)
  refine wpAny_bind (wpAny_dictEpoch ho hdat ?_)
  refine wpAny_bind (wpAny_newObj_type (wpAny_pure ⟨_, rfl, "dict_keyiterator", _, ⟨_, Heap.get?_push_size _ rfl, rfl⟩, PySem.F.slot_dict_keyiterator_next.lookup, ?_⟩))
  simpa [rawInt] using hQ
theorem next_raw {Q : Option Value → Shared → Prop} (hit : s.heap.IsKeyIter it d i es.size ep) (hm : RawD s.heap d es ep) (hlt : i < es.size)
    (hQ : ∀ h', h'.IsKeyIter it d (i + 1) es.size ep → Heap.SameBut it s.heap h' → Q (some es[i].key) { s with heap := h' }) : wpAny (model prog w) A (pyNext (.ref it)) Q E s := by
  obtain ⟨o, ho, hc, hd⟩ := id hit
  obtain ⟨od, hod, hcd, hdd⟩ := id hm
  unfold pyNext
  refine wpAny_bind (wpAny_attempt (wpAny_callSpecial?_slot (name := Str.ofString "__next__") hit.typeIs PySem.F.slot_dict_keyiterator_next
    (wpAny_call_entry PySem.F.slot_dict_keyiterator_next hit.typeIs PySem.F.entry_dict_keyiterator_next ?_ (PySem.F.args_dict_keyiterator_next_1 _))))
  refine wpAny_bind (wpAny_pure ?_)
  refine wpAny_bind ?_
  refine wpAny_bind ?_
  refine wpAny_bind (wpAny_typeNameOfWhole_keyiter hit.typeIs (wpAny_pure ?_))
  refine wpAny_bind (wpAny_fieldsOf ho hd ?_)
  have hown : Builtin.Dict_items.ownsTuple "dict_keyiterator" = false := by decide
  simp only [hown, Bool.false_eq_true, if_false]
  show wpAny _ _ (if (Value.ref d == Value.none) = true then _ else _) _ _ s
  rw [if_neg (show ¬ ((Value.ref d == Value.none) = true) from Bool.false_ne_true)]
  refine wpAny_bind (wpAny_pure ?_)
  refine wpAny_bind (wpAny_dictEntries hod hdd ?_)
  rw [if_neg (by simp)]
  refine wpAny_bind (wpAny_pure ?_)
  refine wpAny_bind (wpAny_dictEpoch hod hdd ?_)
  rw [if_neg (by simp)]
  refine wpAny_pure ?_
  simp only [show ¬ ((i : Int) < 0) from by omega, if_false, Int.toNat_natCast, Array.getElem?_eq_getElem hlt]
  refine wpAny_bind ?_
  refine wpAny_bind (wpAny_typeNameOfWhole_keyiter hit.typeIs (wpAny_pure ?_))
  refine wpAny_bind (wpAny_isOneOf_keyiter hit.typeIs ?_)
  show wpAny _ _ (setField (.ref it) 1 (rawInt ((i : Int) + 1)) >>= _) _ _ s
  refine wpAny_bind (wpAny_setField ho hd (by simp) ?_)
  have hit' : (s.heap.update it (Obj.mapFields (·.setIfInBounds 1 (rawInt ((i : Int) + 1))))).IsKeyIter it d (i + 1) es.size ep :=
    ⟨_, Heap.get?_update_self _ ho (Obj.isFreed_of_fields (Obj.data_mapFields hd _)), (Obj.cls_mapFields ..).trans hc, by rw [Obj.data_mapFields hd]; simp [rawInt]⟩
  refine wpAny_bind (wpAny_holding ?_)
  refine wpAny_bind (wpAny_isOneOf_keyiter (s := { s with heap := s.heap.update it (Obj.mapFields (·.setIfInBounds 1 (rawInt ((i : Int) + 1)))) }) hit'.typeIs ?_)
  show wpAny _ _ (pure es[i].key) _ _ _
  exact wpAny_pure (wpAny_pure ⟨_, rfl, wpAny_pure (hQ _ hit' (Heap.SameBut.update ..))⟩)
theorem end_raw {Q : Option Value → Shared → Prop} (hh : A.handled = none) (hit : s.heap.IsKeyIter it d i es.size ep) (hm : RawD s.heap d es ep) (hge : es.size ≤ i)
    (hQ : ∀ h', Heap.ExtBut it s.heap h' → Q none { s with heap := h' }) : wpAny (model prog w) A (pyNext (.ref it)) Q E s := by
  obtain ⟨o, ho, hc, hd⟩ := id hit
  obtain ⟨od, hod, hcd, hdd⟩ := id hm
  unfold pyNext
  refine wpAny_bind (wpAny_attempt (wpAny_callSpecial?_slot (name := Str.ofString "__next__") hit.typeIs PySem.F.slot_dict_keyiterator_next
    (wpAny_call_entry PySem.F.slot_dict_keyiterator_next hit.typeIs PySem.F.entry_dict_keyiterator_next ?_ (PySem.F.args_dict_keyiterator_next_1 _))))
  refine wpAny_bind (wpAny_pure ?_)
  refine wpAny_bind ?_
  refine wpAny_bind ?_
  refine wpAny_bind (wpAny_typeNameOfWhole_keyiter hit.typeIs (wpAny_pure ?_))
  refine wpAny_bind (wpAny_fieldsOf ho hd ?_)
  have hown : Builtin.Dict_items.ownsTuple "dict_keyiterator" = false := by decide
  simp only [hown, Bool.false_eq_true, if_false]
  show wpAny _ _ (if (Value.ref d == Value.none) = true then _ else _) _ _ s
  rw [if_neg (show ¬ ((Value.ref d == Value.none) = true) from Bool.false_ne_true)]
  refine wpAny_bind (wpAny_pure ?_)
  refine wpAny_bind (wpAny_dictEntries hod hdd ?_)
  rw [if_neg (by simp)]
  refine wpAny_bind (wpAny_pure ?_)
  refine wpAny_bind (wpAny_dictEpoch hod hdd ?_)
  rw [if_neg (by simp)]
  refine wpAny_pure ?_
  simp only [show ¬ ((i : Int) < 0) from by omega, if_false, Int.toNat_natCast, Array.getElem?_eq_none hge]
  refine wpAny_bind ?_
  refine wpAny_bind (wpAny_typeNameOfWhole_keyiter hit.typeIs (wpAny_pure ?_))
  show wpAny _ _ (setField (.ref it) 0 .none >>= _) _ _ s
  refine wpAny_bind (wpAny_setField ho hd (by simp) ?_)
  show wpAny _ _ (newExc (.type "StopIteration") [] >>= _) _ _ _
  refine wpAny_bind ?_
  simp only [newExc, newTuple]
  refine wpAny_bind (wpAny_newObj_type ?_ (by size_fits))
  refine wpAny_bind (m := firstArgMember _ _) (wpAny_of_eq (a := Value.none) (by first | rfl | (simp only [firstArgMember]; rfl)) ?_)
  refine wpAny_newObj_type ?_ (by size_fits)
  simp only [raiseNew]
  refine wpAny_bind (wpAny_handled ?_)
  rw [show A.in1.handled = none from hh]
  refine wpAny_bind (wpAny_pure (wpAny_throw ?_))
  refine wpAny_bind (wpAny_isInstance (T := "StopIteration") (b := true) ⟨_, Heap.get?_push_size _ rfl, rfl⟩ isSubtype_stop ?_)
  exact wpAny_pure (hQ _ (((Heap.SameBut.update ..).extBut.push _).push _))
theorem walks_raw (hh : A.handled = none) (I d : Addr) (hne : d ≠ I) (es : Array DictEntry) (ep : Nat) :
    Walks prog w A I [I, d] [I] es.size (fun i v => ∃ h : i < es.size, v = es[i].key) (fun i h => h.IsKeyIter I d i es.size ep ∧ RawD h d es ep) where
  sub := fun b hb => by simp at hb; simp [hb]
  frame := fun _ _ _ st hk => ⟨st.1.at fun o e => hk I (by simp) o e, st.2.at fun o e => hk d (by simp) o e⟩
  item := fun i s Q E hi st hQ => next_raw st.1 st.2 hi fun h' hit' hs' => hQ _ h' s.toks ⟨hi, rfl⟩ ⟨hit', st.2.at fun o e => hs'.extBut d o hne e⟩ fun b o hb e => hs'.extBut b o (fun h => hb (by simp [h])) e
  done := fun s Q E st hQ => end_raw hh st.1 st.2 (Nat.le_refl _) fun h' he' => hQ h' s.toks fun b o hb e => he' b o (fun h => hb (by simp [h])) e
  self := fun _ _ _ _ st hQ => wpAny_pyIter_keyiter st.1 hQ
theorem collect_raw {Q : List Value → Shared → Prop} (hh : A.handled = none) (hsm : (d == sysModules) = false) (hm : RawD s.heap d es ep) (hb : es.size ≤ sizeLine)
    (h : ∀ (vals : List Value) (h' : Heap) tk, vals = es.toList.map (·.key) → s.heap.objs.size < h'.objs.size → (∀ b ob, s.heap.get? b = some ob → h'.get? b = some ob) → Q vals { s with heap := h', toks := tk }) :
    wpAny (model prog w) A (collect (.ref d)) Q E s := by
  have K : PySem.W.KdlSrc prog w "dict" d d es.size (fun i v => ∃ h : i < es.size, v = es[i].key) (fun h => RawD h d es ep) := {
    type := fun _ hm => hm.typeIs
    there := fun _ hm => ⟨hm.lt, hm.lt⟩
    keep := fun _ _ hm hk => hm.at fun o e => hk d (.inl rfl) o e
    notList := by decide
    notTuple := by decide
    hint := fun _ _ _ _ hm hq => PySem.W.kdl_hint_dict hm.typeIs hq
    iter := fun _ _ hh hm => ⟨_, _, (fun _ _ hq => iter_raw hsm hm hq), walks_raw hh _ d (Nat.ne_of_lt hm.lt) es ep, ⟨⟨_, Heap.get?_push_size _ rfl, rfl, rfl⟩, hm.at fun o e => Heap.get?_push_of_some _ e⟩⟩ }
  unfold collect
  have key : codeAny (model prog w) A (.builtin "proto.collect" ⟨[.ref d], []⟩) (fun r s' => ∃ h' tk acc c', r = .ok (.ret (.ref s.heap.objs.size)) ∧ s' = { s with heap := h', toks := tk } ∧ (∀ b o, b ≠ s.heap.objs.size → (s.heap.push newLst).get? b = some o → h'.get? b = some o) ∧ h'.get? s.heap.objs.size = some { cls := .type "list", dict := none, data := .seq acc c', slots := #[] } ∧ ItemsOf (fun i v => ∃ h : i < es.size, v = es[i].key) acc es.size) s := by
    refine codeAny_builtin PySem.F.entry_proto_collect ?_
    rw [Around.under_plainId PySem.F.plain_proto_collect _]
    show wpAny _ _ (newList [] >>= fun l => again (.builtin "list.__iadd__" ⟨[l, .ref d], []⟩)) _ _ _
    refine wpAny_bind (m := newList []) (wpAny_newObj_type ?_)
    refine wpAny_pure (α := _) ⟨plainId_quiet PySem.F.plain_list_iadd _, codeAny_builtin PySem.F.entry_list_iadd ?_⟩
    rw [Around.under_plainId PySem.F.plain_list_iadd _]
    have hm1 : RawD (s.heap.push newLst) d es ep := hm.at fun o e => Heap.get?_push_of_some _ e
    have hSl := hm.lt
    have hS : (s.heap.push newLst).get? s.heap.objs.size = some newLst := Heap.get?_push_size _ rfl
    show wpAny _ _ (Builtin.List.listExtendWith (.ref s.heap.objs.size) (.ref d) (.ref s.heap.objs.size)) _ _ _
    exact PySem.W.kdl_extend (s := { s with heap := s.heap.push newLst }) (R := fun r s' => ∃ h' tk acc c', r = .ok (.ret (.ref s.heap.objs.size)) ∧ s' = { s with heap := h', toks := tk } ∧ (∀ b o, b ≠ s.heap.objs.size → (s.heap.push newLst).get? b = some o → h'.get? b = some o) ∧ h'.get? s.heap.objs.size = some { cls := .type "list", dict := none, data := .seq acc c', slots := #[] } ∧ ItemsOf (fun i v => ∃ h : i < es.size, v = es[i].key) acc es.size) K hh hm1 s.heap.objs.size (Nat.ne_of_gt hSl) (Nat.ne_of_gt hSl) (.ref s.heap.objs.size) 0 hS (fun h' tk acc c' hold hS' hacc => ⟨h', tk, acc, c', rfl, rfl, hold, hS', hacc⟩) hb
  refine wpAny_bind (m := runValue _) (wpAny_runValue (codeAny_mono key fun r s' hq1 => ?_))
  obtain ⟨h', tk, acc, c', er, es', hold, hS', hacc⟩ := hq1
  subst er es'
  show wpAny _ _ (load s.heap.objs.size >>= _) _ _ _
  refine wpAny_bind (m := load _) (wpAny_load hS' ?_)
  refine wpAny_pure (α := _) ?_
  refine h acc.toList h' tk ?_ (Heap.lt_size hS') fun b ob e => hold b ob (Nat.ne_of_lt (Heap.lt_size e)) (Heap.get?_push_of_some _ e)
  apply List.ext_getElem
  · rw [Array.length_toList, List.length_map, Array.length_toList]; exact hacc.1
  · intro j q1 q2
    have hj : j < acc.size := by simpa using q1
    obtain ⟨hlt, e⟩ := hacc.2 j acc[j] (by simp [hj])
    simp [e]
end
section
variable {κ : Type} [DecidableEq κ]
theorem map_erase {α β : Type} (f : α → β) : ∀ (l : List α) (j : Nat), (l.map f).eraseIdx j = (l.eraseIdx j).map f
  | [], _ => rfl
  | _ :: _, 0 => rfl
  | x :: l, j + 1 => by rw [List.map_cons, List.eraseIdx_cons_succ, List.eraseIdx_cons_succ, List.map_cons, map_erase f l j]
theorem erase_key : ∀ {xs : List (κ × Addr × Value)} {j : Nat} {k : κ} {p : Addr × Value}, (xs.map (·.1)).Nodup → xs[j]? = some (k, p) → xs.eraseIdx j = xs.filter fun x => decide (x.1 ≠ k)
  | [], _, _, _, _, h => by simp at h
  | x :: xs, 0, k, p, hn, h => by
    simp at h; subst h
    rw [List.map_cons, List.nodup_cons] at hn
    rw [List.eraseIdx_cons_zero, List.filter_cons, if_neg (by simp)]
    exact (List.filter_eq_self.mpr fun y hy => by
      have : y.1 ≠ k := fun e => hn.1 (e ▸ List.mem_map.mpr ⟨y, hy, rfl⟩)
      simpa using this).symm
  | x :: xs, j + 1, k, p, hn, h => by
    rw [List.map_cons, List.nodup_cons] at hn
    simp only [List.getElem?_cons_succ] at h
    have hm : k ∈ xs.map (·.1) := List.mem_map.mpr ⟨(k, p), List.mem_of_getElem? h, rfl⟩
    have hne : x.1 ≠ k := fun e => hn.1 (e ▸ hm)
    rw [List.eraseIdx_cons_succ, List.filter_cons, if_pos (by simpa using hne), erase_key hn.2 h]
variable {prog : Program} {w : World} {knd : HeapKind prog w κ} {A : Around} {E : Value → Shared → Prop} {s : Shared} {d a : Addr} {xs : List (κ × Addr × Value)} {k : κ} {p : Addr × Value}
theorem take_heap {Q : Option DictEntry → Shared → Prop} (hu : knd.room A) (hkey : knd.is s.heap k a) (hm : s.heap.DictOfH knd d xs) (hp : atKey xs k = some p) (hsz : xs.length ≤ sizeLine)
    (hQ : ∀ (e : DictEntry) h' tk, e.val = p.2 → h'.DictOfH knd d (xs.filter fun x => decide (x.1 ≠ k)) → Heap.SameBut d s.heap h' → Q (some e) { s with heap := h', toks := tk }) : wpAny (model prog w) A (Builtin.Dict.takeOut d (.ref a)) Q E s := by
  obtain ⟨o, es, ep, ho, hc, hd, he, his, hn⟩ := hm
  unfold Builtin.Dict.takeOut
  refine wpAny_holding (vs := [_]) ?_
  refine wpAny_bind (m := PySem.pyHash _) (knd.pyHash hu hkey ?_)
  refine wpAny_bind (m := dictFind _ _ _) (wpAny_dictFind_heap (s := { s with toks := s.toks + knd.draws k }) hu hkey ho hd he his hn (fun hno => by rw [atKey_none_of_get hno] at hp; cases hp) fun j q hj => ?_)
  rw [atKey_of_get hn hj] at hp; cases hp
  refine wpAny_bind (m := dictEntries _ _) (wpAny_dictEntries (s := { s with toks := s.toks + knd.draws k }) ho hd ?_)
  rw [entry_at he j, hj]
  refine wpAny_bind (m := updateDictKeys _ _ _) (wpAny_updateDictKeys (hz := by have e := size_of_entries he; omega) (s := { s with toks := s.toks + knd.draws k }) ho hd (wpAny_pure (hQ _ _ _ rfl ⟨_, _, ep + 1, Heap.get?_update_self _ ho (Obj.isFreed_of_dict (Obj.data_mapDictKeys hd _)),
      hc.mapDictKeys _, Obj.data_mapDictKeys hd _, ?_, fun x hx => knd.keeps (his x (List.mem_filter.mp hx).1) ho hd (Heap.SameBut.update ..), ?_⟩ (Heap.SameBut.update ..))))
  · rw [← erase_key hn hj]
    obtain ⟨l⟩ := es
    have he' : l = xs.map (entryOfKey knd) := he
    simp [he', map_erase]
  · exact hn.sublist (List.Sublist.map _ List.filter_sublist)
theorem meets_popH (hu' : ∀ A : Around, A.units + 1 < cLine → knd.room A.in1) (d a : Addr) :
    MeetsIn prog w (Builtin.«dict.pop» ⟨[.ref d, .ref a], []⟩) (fun A R s => ∃ k xs p, A.units + 1 < cLine ∧ knd.is s.heap k a ∧ s.heap.DictOfH knd d xs ∧ xs.length ≤ sizeLine ∧ atKey xs k = some p ∧
      ∀ h' tk, h'.DictOfH knd d (xs.filter fun x => decide (x.1 ≠ k)) → Heap.SameBut d s.heap h' → R (.ok (.ret p.2)) { s with heap := h', toks := tk }) :=
  .of_wp fun A R s hq2 => by
    obtain ⟨k, xs, p, hu, hkey, hm, hsz, hp, h⟩ := hq2
    unfold Builtin.«dict.pop»
    refine wpAny_bind ?_
    unfold Builtin.Dict.keyAndDefault
    refine wpAny_bind (wpAny_notOrdered_dict hm.typeIs ?_)
    show wpAny _ _ (pure (d, Value.ref a, none)) _ _ s
    refine wpAny_pure ?_
    obtain ⟨o, es, ep, ho, hc, hd, he, his, hn⟩ := id hm
    have hne : es.isEmpty = false := by
      cases q : es.isEmpty with
      | false => rfl
      | true =>
        have z : es = #[] := by simpa using q
        rw [z] at he
        have : xs = [] := by cases xs with | nil => rfl | cons _ _ => cases he
        rw [this] at hp; cases hp
    simp only [show (keyPart (Value.ref a)).isSome = false from rfl, Bool.false_eq_true, if_false]
    refine wpAny_bind (wpAny_dictEntries ho hd ?_)
    refine wpAny_bind (wpAny_pure ?_)
    rw [hne]
    simp only [Bool.false_eq_true, if_false]
    refine wpAny_bind (take_heap (hu' A hu) hkey hm hp hsz fun e h' tk ev hm' hs' => ?_)
    simp only [Option.isNone_some, Bool.false_eq_true, if_false]
    exact wpAny_bind (wpAny_letGo (wpAny_pure ⟨e.val, rfl, by rw [ev]; exact h h' tk hm' hs'⟩))
end
end L3

namespace L3
open PySem PySem.Spec PyProof.Rows L2

def KeyAt (K : PySem.W.Frag) (H : Hp) (y : V) (k : List Key) : Prop := ∃ b, y = .ref b ∧ SqT K H b (k.map kV)
theorem KT.drop {H : Hp} {kvs : List (List Key × V)} {xs : List (List Key × Addr × Value)} (r : KT H kvs xs) (k : List Key) : KT H (dropK kvs k) (xs.filter fun x => decide (x.1 ≠ k)) := by
  unfold dropK
  induction r with
  | nil => exact .nil
  | @cons p q ps qs h t ih =>
    rw [List.filter_cons, List.filter_cons]
    by_cases e : p.1 = k
    · rw [if_neg (by simp [e]), if_neg (by simp [h.1.symm.trans e])]; exact ih
    · rw [if_pos (by simpa using e), if_pos (by rw [← h.1]; simpa using e)]; exact .cons h ih
section
variable {X : Cx} {pins : List (Addr × Obj)} {σ : St} {H : Hp} {s : Shared} {a : Addr} {y v : V} {u r : Value} {A : Around} {E : Value → Shared → Prop} {kvs : List (List Key × V)} {k : List Key}
theorem keyAt_is (I : Inv X pins σ H s) (h : KeyAt X.K H y k) (ry : RelV y u) : ∃ b, u = .ref b ∧ (tupleKind (mixKind X.prog X.w)).is s.heap k b := by
  obtain ⟨b, rfl, hq⟩ := h
  cases (show u = Value.ref b from ry)
  obtain ⟨its, rv, ⟨o, h1, h2, n, h3⟩, _⟩ := I.tuple hq
  exact ⟨b, rfl, o, its.toArray, n, h1, h2, h3, by simpa using items_are rv⟩
theorem d_getS {Q : Value → Shared → Prop} (hu : A.units + 1 < cLine) (I : Inv X pins σ H s) (e : Rd H a (.dT kvs)) (hk : KeyAt X.K H y k) (l : valV kvs k = some v) (ry : RelV y u) (h : ∀ w' s', Inv X pins σ H s' → RelV v w' → Q w' s') :
    wpAny (model X.prog X.w) A (getItem (.ref a) u) Q E s := by
  obtain ⟨b, rfl, hb⟩ := keyAt_is I hk ry
  obtain ⟨z, hd, xs, rel, dd⟩ := dt_rd I.hok e
  obtain ⟨w', hw, rw'⟩ := RelO.some_of (v := v) (o := (atKey xs k).map (·.2)) (by rw [← l]; exact rel.val k)
  obtain ⟨p, hp, hp2⟩ := Option.map_eq_some_iff.mp hw
  refine wpAny_getItem_heap (tupleKind_room_in1 hu) hb dd hp ?_
  rw [hp2]
  exact h w' _ (I.tok _) rw'
theorem d_inS {Q : Value → Shared → Prop} (neg : Bool) (hu : A.units + 1 < cLine) (I : Inv X pins σ H s) (e : Rd H a (.dT kvs)) (hk : KeyAt X.K H y k) (ry : RelV y u) (h : ∀ s', Inv X pins σ H s' → Q (.bool (if neg then !(valV kvs k).isSome else (valV kvs k).isSome)) s') :
    wpAny (model X.prog X.w) A (compareOp (if neg then .NotIn else .In) u (.ref a)) Q E s := by
  obtain ⟨b, rfl, hb⟩ := keyAt_is I hk ry
  obtain ⟨z, hd, xs, rel, dd⟩ := dt_rd I.hok e
  have q := (rel.val k).isSome_eq
  rw [Option.isSome_map] at q
  cases neg with
  | true =>
    refine wpAny_notIn_heap (tupleKind_room_in1 hu) hb hd dd ?_
    rw [← q]
    exact h _ (I.tok _)
  | false =>
    refine wpAny_in_heap (tupleKind_room_in1 hu) hb hd dd ?_
    rw [← q]
    exact h _ (I.tok _)
theorem d_popS {Q : Value → Shared → Prop} (hu : A.units + 1 < cLine) (I : Inv X pins σ H s) (e : H a = some (.dT kvs)) (hk : KeyAt X.K H y k) (l : valV kvs k = some v) (ry : RelV y u) (h : ∀ w' s', Inv X pins σ (upd H a (.dT (dropK kvs k))) s' → RelV v w' → Q w' s') :
    wpAny (model X.prog X.w) A (call (.builtin "dict.pop") [.ref a, u]) Q E s := by
  obtain ⟨b, rfl, hb⟩ := keyAt_is I hk ry
  obtain ⟨z, hd, xs, rel, dd⟩ := dt_of I.hok e
  obtain ⟨w', hw, rw'⟩ := RelO.some_of (v := v) (o := (atKey xs k).map (·.2)) (by rw [← l]; exact rel.val k)
  obtain ⟨p, hp, hp2⟩ := Option.map_eq_some_iff.mp hw
  refine call_meetsIn PySem.F.slot_dict_pop dd.typeIs PySem.F.entry_dict_pop (PySem.F.args_dict_pop_2 _ _) (meets_popH (knd := tupleKind (mixKind X.prog X.w)) (fun A hu => tupleKind_room_in1 hu) a b) ⟨k, xs, p, hu, hb, dd, by rw [← Paired.length rel]; exact z, hp, fun h' tk dd' hs => ?_⟩
  rw [hp2]
  obtain ⟨q, es, ep, hq, h2, h3, h4, _, h5⟩ := dd'
  refine h w' _ (d_write I (by rw [e]; exact True.intro) hs ⟨q, hq⟩ ⟨Nat.le_trans (dropK_le kvs k) z, hd, _, (KT.drop rel k).keeps fun c ys ec => ?_, q, es, ep, hq, h2, h3, h4, h5⟩) rw'
  rw [upd_ne (ne_of ec e (fun z => nomatch z))]
  exact ec
end
def tDGetS (K : PySem.W.Frag) (td ty : TE) : TE := fun σ H Q => td σ H fun x H1 => ty σ H1 fun y H2 => ∃ a kvs k v, x = .ref a ∧ Rd H2 a (.dT kvs) ∧ KeyAt K H2 y k ∧ valV kvs k = some v ∧ Q v H2
def tDInS (K : PySem.W.Frag) (neg : Bool) (ty td : TE) : TE := fun σ H Q => ty σ H fun y H1 => td σ H1 fun x H2 => ∃ a kvs k, x = .ref a ∧ Rd H2 a (.dT kvs) ∧ KeyAt K H2 y k ∧ Q (.bl (if neg then !(valV kvs k).isSome else (valV kvs k).isSome)) H2
def tDPopS (K : PySem.W.Frag) (td ty : TE) : TE := fun σ H Q => td σ H fun x H1 => ∃ a, x = .ref a ∧ IsD H1 a ∧ ty σ H1 fun y H2 => ∃ kvs k v, H2 a = some (.dT kvs) ∧ KeyAt K H2 y k ∧ valV kvs k = some v ∧ Q v (upd H2 a (.dT (dropK kvs k)))
section
variable {X : Cx} {o i e : Expr} {pos apos cpos : Pos} {td ty : TE}
theorem pe_dgetS (hu : X.A.units + 1 < cLine) (ho : PE X o td) (hi : PE X i ty) (hs : NoSl i) : PE X (.Subscript o i pos) (tDGetS X.K td ty) := by
  intro pins s σ H Q I h
  refine subD_of PySem.F.slot_dict_getitem.lookup hs (thn (ho pins s σ H _ I h) fun u s1 ⟨x, H1, I1, rx, q1⟩ => thn (hi pins s1 σ H1 _ I1 q1) fun iv s2 ⟨y, H2, I2, ry, a, kvs, k, v, ex, ea, hk, l, q2⟩ => ?_)
  subst ex
  obtain rfl : u = Value.ref a := rx
  exact ⟨(isD_at I2 (.inr ⟨kvs, ea⟩)).1, d_getS hu I2 ea hk l ry fun w' s3 I3 rw' => ⟨v, H2, I3, rw', q2⟩⟩
theorem pc_dinS (neg : Bool) (hu : X.A.units + 1 < cLine) (hi : PE X i ty) (ho : PE X o td) : PC X (if neg then .NotIn else .In) i o (tDInS X.K neg ty td) := by
  intro pins s σ H Q I h
  refine thn (hi pins s σ H _ I h) fun iv s1 ⟨y, H1, I1, ry, q1⟩ => thn (ho pins s1 σ H1 _ I1 q1) fun u s2 ⟨x, H2, I2, rx, a, kvs, k, ex, ea, hk, q2⟩ => ?_
  subst ex
  obtain rfl : u = Value.ref a := rx
  exact d_inS neg hu I2 ea hk ry fun s3 I3 => ⟨.bl _, H2, I3, rfl, q2⟩
theorem pe_dpopS (hu : X.A.units + 1 < cLine) (ho : PE X o td) (he : PE X e ty) (m : M1 X o "pop" apos e cpos) : PE X (.Call (.Attribute o "pop" apos) [e] [] cpos) (tDPopS X.K td ty) := by
  intro pins s σ H Q I h
  refine wpAny_Call_method m.base m.few m.line PySem.F.plainAttrs_dict PySem.F.slot_dict_pop PySem.F.type_dict_pop (thn (ho pins s σ H _ I h) fun u s1 hq5 => ?_)
  obtain ⟨x, H1, I1, rx, a, ex, d, q1⟩ := hq5
  subst ex
  obtain rfl : u = Value.ref a := rx
  obtain ⟨t1, t2, _⟩ := isD_at I1 d
  refine ⟨t1, t2, ?_⟩
  rw [m.trees]
  refine Calls.callWith_builtin rfl (Calls.evalArgs_plain (Calls.spliced_cons (thn (he pins s1 σ H1 _ I1 q1) fun iv s2 ⟨y, H2, I2, ry, kvs, k, v, ea, hk, l, q2⟩ => Calls.spliced_nil ?_)))
  exact d_popS hu I2 ea hk l ry fun w' s3 I3 rw' => ⟨v, _, I3, rw', q2⟩
end
def hasL (ks : List (List Key)) (k : List Key) : Bool := ks.any fun k' => decide (k' = k)
theorem hasL_iff {ks : List (List Key)} {k : List Key} : hasL ks k = true ↔ k ∈ ks := by
  unfold hasL
  rw [List.any_eq_true]
  exact ⟨fun ⟨x, h, e⟩ => of_decide_eq_true e ▸ h, fun h => ⟨k, h, decide_eq_true rfl⟩⟩
def lookL {α : Type} : List (List Key) → List α → List Key → Option α
  | k' :: ks, x :: xs, k => if k' = k then some x else lookL ks xs k
  | _, _, _ => none
theorem val_hasL {ks : List (List Key)} {vs : List V} (h : ks.length = vs.length) (k : List Key) : (valV (ks.zip vs) k).isSome = hasL ks k := by
  unfold valV hasL
  rw [Option.isSome_map]
  induction ks generalizing vs with
  | nil => rfl
  | cons k' ks ih =>
    cases vs with
    | nil => cases h
    | cons v vs =>
      rw [List.zip_cons_cons, List.find?_cons, List.any_cons]
      by_cases q : k' = k
      · simp [q]
      · simp only [q, decide_false, Bool.false_or]
        exact ih (by simpa using h)
theorem val_lookL {K : PySem.W.Frag} {F : Hp} {k : List Key} {x : D} : ∀ {ks : List (List Key)} {xs : List D} {vs : List V}, lookL ks xs k = some x → Reps K F xs vs → ∃ v, valV (ks.zip vs) k = some v ∧ Rep K F x v
  | [], _, _, h, _ => by cases h
  | _ :: _, [], _, h, _ => by cases h
  | k' :: ks, d :: xs, vs, h, r => by
    unfold Reps at r
    obtain ⟨v, us, rfl, r1, r2⟩ := r
    unfold lookL at h
    unfold valV
    rw [List.zip_cons_cons, List.find?_cons]
    by_cases q : k' = k
    · rw [if_pos q] at h; cases h
      simp only [q, decide_true]
      exact ⟨v, rfl, r1⟩
    · rw [if_neg q] at h
      simp only [q, decide_false]
      exact val_lookL h r2
theorem keyAt_rep {K : PySem.W.Frag} {F H : Hp} {k : List Key} {y : V} (s : Same F H) (r : Rep K F (.tup (k.map keyD)) y) : KeyAt K H y k := by
  unfold Rep at r
  obtain ⟨b, vs, rfl, hq, rs⟩ := r
  have e : vs = k.map kV := by
    clear hq
    induction k generalizing vs with
    | nil => unfold List.map Reps at rs; exact rs
    | cons q k ih =>
      rw [List.map_cons] at rs
      unfold Reps at rs
      obtain ⟨v, us, rfl, r1, r2⟩ := rs
      rw [List.map_cons, rep_keyD r1, ih us r2]
  subst e
  exact ⟨b, rfl, sqT_mono s hq⟩
def putL (ks : List (List Key)) (k : List Key) : List (List Key) := if hasL ks k = true then ks else ks ++ [k]
def putLX {α : Type} (ks : List (List Key)) (xs : List α) (k : List Key) (x : α) : List α := if hasL ks k = true then List.zipWith (fun k' y => if k' = k then x else y) ks xs else xs ++ [x]
def dropLX {α : Type} : List (List Key) → List α → List Key → List α
  | k' :: ks, x :: xs, k => if k' = k then dropLX ks xs k else x :: dropLX ks xs k
  | _, _, _ => []
def dropL (ks : List (List Key)) (k : List Key) : List (List Key) := ks.filter fun k' => decide (k' ≠ k)
theorem drop_zip {k : List Key} : ∀ {ks : List (List Key)} {vs : List V}, ks.length = vs.length → dropK (ks.zip vs) k = (dropL ks k).zip (dropLX ks vs k) ∧ (dropL ks k).length = (dropLX ks vs k).length
  | [], _, _ => ⟨rfl, rfl⟩
  | _ :: _, [], h => by cases h
  | k' :: ks, v :: vs, h => by
    obtain ⟨h1, h2⟩ := drop_zip (ks := ks) (vs := vs) (by simpa using h)
    unfold dropK at h1 ⊢
    unfold dropL at h1 h2 ⊢
    unfold dropLX
    rw [List.zip_cons_cons, List.filter_cons, List.filter_cons]
    by_cases q : k' = k
    · rw [if_neg (by simp [q]), if_neg (by simp [q]), if_pos q]; exact ⟨h1, h2⟩
    · rw [if_pos (by simpa using q), if_pos (by simpa using q), if_neg q, List.zip_cons_cons, h1]; exact ⟨rfl, by rw [List.length_cons, List.length_cons, h2]⟩
theorem reps_dropL {K : PySem.W.Frag} {F : Hp} {k : List Key} : ∀ {ks : List (List Key)} {xs : List D} {vs : List V}, Reps K F xs vs → Reps K F (dropLX ks xs k) (dropLX ks vs k)
  | [], xs, vs, _ => by unfold dropLX Reps; rfl
  | _ :: _, [], vs, h => by unfold Reps at h; subst h; unfold dropLX Reps; rfl
  | k' :: ks, x :: xs, vs, h => by
    unfold Reps at h
    obtain ⟨v, us, rfl, h1, h2⟩ := h
    unfold dropLX
    by_cases q : k' = k
    · rw [if_pos q, if_pos q]; exact reps_dropL h2
    · rw [if_neg q, if_neg q]; exact reps_cons h1 (reps_dropL h2)
theorem zip_mapL {k : List Key} {v : V} : ∀ {ks : List (List Key)} {vs : List V}, ks.length = vs.length → (ks.zip vs).map (fun kv => if kv.1 = k then (kv.1, v) else kv) = ks.zip (List.zipWith (fun k' y => if k' = k then v else y) ks vs)
  | [], _, _ => rfl
  | _ :: _, [], h => by cases h
  | k' :: ks, w :: vs, h => by
    rw [List.zip_cons_cons, List.map_cons, List.zipWith_cons_cons, List.zip_cons_cons, zip_mapL (by simpa using h)]
    by_cases q : k' = k <;> simp [q]
theorem putL_zip {ks : List (List Key)} {vs : List V} {k : List Key} {v : V} (h : ks.length = vs.length) : putK (ks.zip vs) k v = (putL ks k).zip (putLX ks vs k v) ∧ (putL ks k).length = (putLX ks vs k v).length := by
  unfold putK putL putLX
  have e : ((ks.zip vs).any fun kv => decide (kv.1 = k)) = hasL ks k := by
    rw [valV_any, val_hasL h]
  rw [e]
  by_cases q : hasL ks k = true
  · rw [if_pos q, if_pos q, if_pos q]
    exact ⟨zip_mapL h, by rw [List.length_zipWith, ← h, Nat.min_self]⟩
  · rw [if_neg q, if_neg q, if_neg q, List.zip_append h]
    exact ⟨rfl, by simp [h]⟩
theorem reps_zwL {K : PySem.W.Frag} {F : Hp} {k : List Key} {d : D} {v : V} (r : Rep K F d v) : ∀ {ks : List (List Key)} {xs : List D} {vs : List V}, Reps K F xs vs → Reps K F (List.zipWith (fun k' y => if k' = k then d else y) ks xs) (List.zipWith (fun k' y => if k' = k then v else y) ks vs)
  | [], xs, vs, h => by simp [Reps]
  | _ :: _, [], vs, h => by unfold Reps at h; subst h; simp [Reps]
  | k' :: ks, x :: xs, vs, h => by
    unfold Reps at h
    obtain ⟨u, us, rfl, h1, h2⟩ := h
    rw [List.zipWith_cons_cons, List.zipWith_cons_cons]
    refine reps_cons ?_ (reps_zwL r h2)
    by_cases q : k' = k
    · rw [if_pos q, if_pos q]; exact r
    · rw [if_neg q, if_neg q]; exact h1
theorem reps_putL {K : PySem.W.Frag} {F : Hp} {ks : List (List Key)} {xs : List D} {vs : List V} {k : List Key} {d : D} {v : V} (h : Reps K F xs vs) (r : Rep K F d v) : Reps K F (putLX ks xs k d) (putLX ks vs k v) := by
  unfold putLX
  split
  · exact reps_zwL r h
  · exact reps_app h (reps_one r)
def gIxT : D → D → (D → Prop) → Prop := fun x y P => match x, y with | .dit ks xs, .tup ds => ∃ k d, ds = k.map keyD ∧ lookL ks xs k = some d ∧ P d | _, _ => False
section
variable {X : Cx} {F0 H0 : Hp} {a b : Expr} {pos : Pos} {ta tb : TE2}
theorem qe_ixT (hu : X.A.units + 1 < cLine) (ha : QE X F0 H0 a ta) (hb : QE X F0 H0 b tb) (hs : NoSl b := by exact fun _ _ => rfl) : QE X F0 H0 (.Subscript a b pos) (cB gIxT ta tb) := fun z E cx =>
  peC (pe_dgetS (X := X.wsh z) hu (ha z E cx) (hb z E cx) hs) fun σ H Q hq7 => by obtain ⟨F, Γ, P, R, h, k⟩ := hq7; exact ⟨F, Γ, _, R, h, fun d1 Γ1 F1 H1 v1 R1 s1 r1 h1 => ⟨F1, Γ1, _, R1, h1, fun d2 Γ2 F2 H2 v2 R2 s2 r2 h2 => by
    unfold gIxT at h2
    split at h2
    · obtain ⟨kk, d, rfl, hl, hp⟩ := h2
      have r1' := r1.up s2
      unfold Rep at r1'
      obtain ⟨c, vs, rfl, ec, hkl, rs⟩ := r1'
      obtain ⟨v, hv, rv⟩ := val_lookL hl rs
      exact ⟨c, _, kk, v, rfl, .inl (R2.g _ _ ec), keyAt_rep R2.g r2, hv, k d Γ2 F2 H2 v R2 (s1.trans s2) rv hp⟩
    · exact h2.elim⟩⟩
end
def lookT : List Str → List T → Str → Option T
  | f :: fs, t :: ts, g => if g = f then some t else lookT fs ts g
  | _, _, _ => none
def setT' : List Str → List T → Str → T → List T
  | f :: fs, t :: ts, g, t' => if g = f then t' :: ts else t :: setT' fs ts g t'
  | _, ts, _, _ => ts
theorem trs_look {K : PySem.W.Frag} {F H : Hp} {g : Str} {t : T} : ∀ {fs : List Str} {ts : List T} {vs : List V} {bs : List Addr}, TRs K F H ts vs bs → lookT fs ts g = some t → ∃ v b1 cs b2, (fs.zip vs).lookup g = some v ∧ bs = b1 ++ (cs ++ b2) ∧ TR K F H t v cs ∧
    ∀ {F' H' : Hp} {t' : T} {ds : List Addr}, Same F F' → (∀ a ∈ b1 ++ b2, ∀ u, H a = some u → H' a = some u) → TR K F' H' t' v ds → TRs K F' H' (setT' fs ts g t') vs (b1 ++ (ds ++ b2))
  | [], _, _, _, _, e => by cases e
  | _ :: _, [], _, _, _, e => by cases e
  | f :: fs, t0 :: ts, _, _, h, e => by
    unfold TRs at h
    obtain ⟨v, vs', a1, a2, rfl, rfl, q1, q2⟩ := h
    unfold lookT at e
    rw [List.zip_cons_cons, List.lookup_cons]
    by_cases hg : g = f
    · rw [if_pos hg] at e; cases e
      subst hg
      refine ⟨v, [], a1, a2, by simp, rfl, q1, fun {F' H' t' ds} s k r => ?_⟩
      unfold setT'
      rw [if_pos rfl]
      unfold TRs
      exact ⟨v, vs', ds, a2, rfl, rfl, r, TRs.move s ts vs' a2 (fun a ha => k a ha) q2⟩
    · rw [if_neg hg] at e
      obtain ⟨w, b1, cs, b2, g1, rfl, g3, g4⟩ := trs_look q2 e
      refine ⟨w, a1 ++ b1, cs, b2, by rw [beq_false_of_ne hg]; exact g1, by simp, g3, fun {F' H' t' ds} s k r => ?_⟩
      unfold setT'
      rw [if_neg hg]
      unfold TRs
      exact ⟨v, vs', a1, b1 ++ (ds ++ b2), rfl, by simp, TR.move s t0 v a1 (fun a ha => k a (by simp [ha])) q1, g4 s (fun a ha => k a (by rcases List.mem_append.mp ha with z | z <;> simp [z])) r⟩
def cFldO (C : Addr) (i : Nat) (f : Str) : TE2 := fun Γ P _ => ∃ as fs ts d, Γ[i]? = some (.tr as (.ob C fs ts)) ∧ lookT fs ts f = some (.leaf d) ∧ P d Γ
def cInO (C : Addr) (neg : Bool) (i : Nat) (f : Str) (tk : TE2) : TT2 := fun Γ P E => tk Γ (fun kd Γ1 => ∃ k as fs ts ks us, kd = .tup (k.map keyD) ∧ Γ1[i]? = some (.tr as (.ob C fs ts)) ∧ lookT fs ts f = some (.dit ks us) ∧ P (if neg then !hasL ks k else hasL ks k) Γ1) E
def cPutO (C : Addr) (i : Nat) (f : Str) (j l : Nat) (tv : TE2) : TS2 := fun D Γ E => tv Γ (fun d Γ1 => ∃ k1 k2 as fs ts ks xs, Γ1[j]? = some (.pu (keyD k1)) ∧ Γ1[l]? = some (.pu (keyD k2)) ∧ Γ1[i]? = some (.tr as (.ob C fs ts)) ∧ lookT fs ts f = some (.dit ks (xs.map .leaf)) ∧ ks.length < sizeLine ∧
  D.nx (Γ1.set i (.tr as (.ob C fs (setT' fs ts f (.dit (putL ks [k1, k2]) ((putLX ks xs [k1, k2] d).map .leaf))))))) E
def cPopO (C : Addr) (i : Nat) (f : Str) (j l : Nat) : TS2 := fun D Γ _ => ∃ k1 k2 as fs ts ks xs d, Γ[j]? = some (.pu (keyD k1)) ∧ Γ[l]? = some (.pu (keyD k2)) ∧ Γ[i]? = some (.tr as (.ob C fs ts)) ∧ lookT fs ts f = some (.dit ks (xs.map .leaf)) ∧ lookL ks xs [k1, k2] = some d ∧
  D.nx (Γ.set i (.tr as (.ob C fs (setT' fs ts f (.dit (dropL ks [k1, k2]) ((dropLX ks xs [k1, k2]).map .leaf))))))
section
variable {X : Cx} {F0 H0 : Hp} {ke value e : Expr} {es : List Expr} {pos npos fpos apos cpos pos' x1 : Pos} {x f : Str} {C : Addr} {i : Nat} {tk tv : TE2} {tf : TF2}
theorem fld_own {K : PySem.W.Frag} {F H : Hp} {σ : St} {Γ : G2} {as : List Addr} {fs : List Str} {ts : List T} {t : T} (R : SR K F0 H0 F H σ Γ) (e0 : Γ[i]? = some (.tr as (.ob C fs ts))) (hl : lookT fs ts f = some t) :
    ∃ a dx vs v bs b1 cs b2, σ[i]? = some (some (.ref a)) ∧ as = a :: dx :: bs ∧ H a = some (.ins C dx (fs.zip vs)) ∧ (fs.zip vs).lookup f = some v ∧ bs = b1 ++ (cs ++ b2) ∧ as.Nodup ∧ (∀ b ∈ as, F b = none ∧ H0 b = none) ∧ TR K F H t v cs ∧
    ∀ {F' H' : Hp} {t' : T} {ds : List Addr}, Same F F' → (∀ c ∈ a :: dx :: (b1 ++ b2), ∀ u, H c = some u → H' c = some u) → TR K F' H' t' v ds → TR K F' H' (.ob C fs (setT' fs ts f t')) (.ref a) (a :: dx :: (b1 ++ (ds ++ b2))) := by
  obtain ⟨o, e1, v, rfl, nd, hn, r⟩ := R.sl i _ e0
  unfold TR at r
  obtain ⟨a, dx, vs, bs, rfl, rfl, ea, ed, hlf, hmu, r⟩ := r
  obtain ⟨v, b1, cs, b2, g1, g2, g3, g4⟩ := trs_look r hl
  refine ⟨a, dx, vs, v, bs, b1, cs, b2, e1, rfl, ea, g1, g2, nd, hn, g3, fun {F' H' t' ds} s k rt => ?_⟩
  unfold TR
  exact ⟨a, dx, vs, _, rfl, rfl, k a (by simp) _ ea, k dx (by simp) _ ed, hlf, hmu, g4 s (fun c hc => k c (by simp at hc ⊢; exact .inr (.inr hc))) rt⟩
theorem qe_fldO (hc : L2.Cls X.K C) (hn : NoAttr X.K C f) (hN : X.N[i]? = some x) (hv : Vis X.env.scope x) (hd : (x == ("__debug__" : Str)) = false := by decide) (hcd : (x == ("__classdict__" : Str)) = false := by decide)
    (hb : attributeBase (.Name x npos) f X.env (eval (.Name x npos) X.env) = eval (.Name x npos) X.env := by rfl) : QE X F0 H0 (.Attribute (.Name x npos) f pos) (cFldO C i f) := fun z E cx =>
  peC (pe_fld (X := X.wsh z) (pe_var (X := X.wsh z) (i := i) hN hv hd hcd) hb) fun σ H Q hq8 => by
    obtain ⟨F, Γ, P, R, ⟨as, fs, ts, d, e0, hl, h⟩, k⟩ := hq8
    obtain ⟨a, dx, vs, v, bs, b1, cs, b2, e1, _, ea, hv', _, _, _, rt, _⟩ := fld_own R e0 hl
    unfold TR at rt
    exact ⟨.ref a, e1, a, C, dx, _, v, rfl, ea, hc, hn, hv', k d Γ F H v R (.refl _) rt.2 h⟩
theorem qt_inO (neg : Bool) (hu : X.A.units + 1 < cLine) (hc : L2.Cls X.K C) (hn : NoAttr X.K C f) (hk : QE X F0 H0 ke tk) (hN : X.N[i]? = some x) (hv : Vis X.env.scope x) (hd : (x == ("__debug__" : Str)) = false := by decide) (hcd : (x == ("__classdict__" : Str)) = false := by decide)
    (hb : attributeBase (.Name x npos) f X.env (eval (.Name x npos) X.env) = eval (.Name x npos) X.env := by rfl) (hm : behindInMarks (if neg then .NotIn else .In) (.Attribute (.Name x npos) f fpos) = false := by with_unfolding_all rfl) :
    QT X F0 H0 (.Compare ke [if neg then .NotIn else .In] [.Attribute (.Name x npos) f fpos] pos) (cInO C neg i f tk) := fun z E cx =>
  ptC (pt_cmp (X := X.wsh z) (pc_dinS (X := X.wsh z) neg hu (hk z E cx) (pe_fld (X := X.wsh z) (pe_var (X := X.wsh z) (i := i) hN hv hd hcd) hb)) hm) fun σ H Q hq9 => by obtain ⟨F, Γ, P, R, h, k⟩ := hq9; exact ⟨F, Γ, _, R, h, fun kd Γ1 F1 H1 y R1 s1 rk hq10 => by
    obtain ⟨kk, as, fs, ts, ks, us, e1, e2, hl, h1⟩ := hq10
    subst e1
    obtain ⟨a, dx, vs, v, bs, b1, cs, b2, e3, _, ea, hv', _, _, _, rt, _⟩ := fld_own R1 e2 hl
    unfold TR at rt
    obtain ⟨c, ws, _, rfl, _, ec, hkl, _⟩ := rt
    refine ⟨.ref a, e3, a, C, dx, _, .ref c, rfl, ea, hc, hn, hv', c, _, kk, rfl, .inl ec, keyAt_rep R1.g rk, _, rfl, ?_⟩
    rw [val_hasL hkl]
    exact k _ _ _ _ R1 s1 h1⟩
theorem fld_chg {K : PySem.W.Frag} {F H : Hp} {σ : St} {Γ : G2} {as : List Addr} {fs : List Str} {ts : List T} {ks ks' : List (List Key)} {xs xs' : List D} {p : Addr} {key : List V} (R : SR K F0 H0 F H σ Γ) (e0 : Γ[i]? = some (.tr as (.ob C fs ts))) (hl : lookT fs ts f = some (.dit ks (xs.map .leaf))) (hp : H p = none) :
    ∃ a dx vs c ws, σ[i]? = some (some (.ref a)) ∧ H a = some (.ins C dx (fs.zip vs)) ∧ (fs.zip vs).lookup f = some (.ref c) ∧ H c = some (.dT (ks.zip ws)) ∧ ks.length = ws.length ∧ Reps K F xs ws ∧ c ≠ p ∧
    ∀ ws', ks'.length = ws'.length → Reps K F xs' ws' → SR K F0 H0 F (L2.upd (L2.upd H p (.tup key)) c (.dT (ks'.zip ws'))) σ (Γ.set i (.tr as (.ob C fs (setT' fs ts f (.dit ks' (xs'.map .leaf)))))) := by
  obtain ⟨a, dx, vs, v, bs, b1, cs, b2, e1, rfl, ea, hv, rfl, nd, hn, rt, back⟩ := fld_own R e0 hl
  unfold TR at rt
  obtain ⟨c, ws, ds, rfl, rfl, ec, hkl, rl⟩ := rt
  obtain ⟨rfl, rs⟩ := leaves_of rl
  have hcp : c ≠ p := fun z => by rw [z, hp] at ec; cases ec
  refine ⟨a, dx, vs, c, ws, e1, ea, hv, ec, hkl, rs, hcp, fun ws' hl' rs' => ?_⟩
  have Rp : SR K F0 H0 F (L2.upd H p (.tup key)) σ Γ := R.grow ⟨.refl _, fun b u e => by rw [upd_ne (ne_of_none (R.g b u e) hp)]; exact R.g b u e, fun b u e => by rw [upd_ne (ne_of_none e hp)]; exact e, fun b o e n => by rw [e] at n; cases n⟩
  refine Rp.wrT e0 e1 (show Own1 (Slot.tr (a :: dx :: (b1 ++ ([c] ++ b2))) (.ob C fs ts)) (some (.ref a)) c from by show c ∈ _; simp) (t := .tr (a :: dx :: (b1 ++ ([c] ++ b2))) (.ob C fs (setT' fs ts f (.dit ks' (xs'.map .leaf))))) ⟨_, rfl, nd, hn, ?_⟩ fun b hb => .inl hb
  refine back (.refl _) (fun b hb u q => ?_) ?_
  · have hbc : b ≠ c := fun z => by
      subst z
      rw [List.nodup_cons, List.nodup_cons] at nd
      obtain ⟨n1, n2, n3⟩ := nd
      rcases List.mem_cons.mp hb with rfl | hb
      · exact n1 (by simp)
      · rcases List.mem_cons.mp hb with rfl | hb
        · exact n2 (by simp)
        · have p := List.nodup_append.mp n3
          rcases List.mem_append.mp hb with hb | hb
          · exact p.2.2 b hb b (by simp) rfl
          · exact (List.nodup_cons.mp p.2.1).1 hb
    rw [upd_ne hbc, upd_ne (ne_of_none q hp)]; exact q
  · unfold TR
    exact ⟨c, ws', [], rfl, rfl, upd_same, hl', trs_leaf rs'⟩
theorem qs_putO {y w : Str} {j l : Nat} {yp wp : Pos} (hu : X.A.units + 1 < cLine) (hc : L2.Cls X.K C) (hn : NoAttr X.K C f) (hval : QE X F0 H0 value tv) (hN : X.N[i]? = some x) (hv : Vis X.env.scope x) (hN2 : X.N[j]? = some y) (hv2 : Vis X.env.scope y) (hN3 : X.N[l]? = some w) (hv3 : Vis X.env.scope w)
    (hd : (x == ("__debug__" : Str)) = false := by decide) (hcd : (x == ("__classdict__" : Str)) = false := by decide) (hd2 : (y == ("__debug__" : Str)) = false := by decide) (hcd2 : (y == ("__classdict__" : Str)) = false := by decide)
    (hd3 : (w == ("__debug__" : Str)) = false := by decide) (hcd3 : (w == ("__classdict__" : Str)) = false := by decide)
    (hb : attributeBase (.Name x npos) f X.env (eval (.Name x npos) X.env) = eval (.Name x npos) X.env := by rfl) {ctx} (hst : starEach [Expr.Name y yp, .Name w wp] X.env = (false, eval (.Name y yp) X.env) :: starEach [Expr.Name w wp] X.env := by rfl) (hst2 : starEach [Expr.Name w wp] X.env = (false, eval (.Name w wp) X.env) :: starEach [] X.env := by rfl)
    (hs : swapsWith value (some (.Subscript (.Attribute (.Name x npos) f fpos) (.Tuple [.Name y yp, .Name w wp] ctx x1) pos')) pos.line X.env = pure false := by rfl) :
    QS X F0 H0 (.Assign [.Subscript (.Attribute (.Name x npos) f fpos) (.Tuple [.Name y yp, .Name w wp] ctx x1) pos'] value pos) (cPutO C i f j l tv) := fun z E cx =>
  psC (ps_dput (X := X.wsh z) hu (pe_fld (X := X.wsh z) (pe_var (X := X.wsh z) (i := i) hN hv hd hcd) hb) (pe_tup (X := X.wsh z) (pa_cons (pe_var (X := X.wsh z) (i := j) hN2 hv2 hd2 hcd2) (pa_cons (pe_var (X := X.wsh z) (i := l) hN3 hv3 hd3 hcd3) pa_nil hst2) hst)) (hval z E cx) hs) fun Dn σ H hq11 => by obtain ⟨F, Γ, D2, R, h, k⟩ := hq11; exact ⟨F, Γ, _, R, h, fun d Γ1 F1 H1 v R1 s1 rd hq12 => by
    obtain ⟨k1, k2, as, fs, ts, ks, xs, g1, g2, e0, hl, hsz, hnx⟩ := hq12
    obtain ⟨o2, e2, v2, rfl, r2⟩ := R1.sl j _ g1
    obtain ⟨o3, e3, v3, rfl, r3⟩ := R1.sl l _ g2
    have ev2 := rep_keyD r2
    subst ev2
    have ev3 := rep_keyD r3
    subst ev3
    obtain ⟨a, dx, vs, v0, bs, b1, cs, b2, e1, _, ea, hv0, _, _, _, rt, _⟩ := fld_own R1 e0 hl
    refine ⟨.ref a, e1, a, C, dx, _, v0, rfl, ea, hc, hn, hv0, kV k1, e2, kV k2, e3, by show (2 : Nat) ≤ sizeLine; decide, fun p hp => ?_⟩
    obtain ⟨a', dx', vs', c, ws, e1', ea', hv', ec, hkl, rs, hcp, back⟩ := fld_chg (ks' := putL ks [k1, k2]) (xs' := putLX ks xs [k1, k2] d) (key := [kV k1, kV k2]) R1 e0 hl hp
    rw [e1] at e1'; cases e1'
    have ez : fs.zip vs = fs.zip vs' := by rw [ea] at ea'; exact (HO.ins.inj (Option.some.inj ea')).2.2
    rw [← ez, hv0] at hv'; cases hv'
    obtain ⟨q1, q2⟩ := putL_zip (k := [k1, k2]) (v := v) hkl
    refine ⟨c, _, rfl, DPut.t (k := [k1, k2]) (by rw [upd_ne hcp]; exact ec) upd_same (by rw [List.length_zip, ← hkl, Nat.min_self]; exact hsz), ?_⟩
    rw [q1]
    exact k.nx _ _ _ _ (back _ q2 (reps_putL rs rd)) s1 hnx⟩
theorem qs_popO {y w : Str} {j l : Nat} {yp wp : Pos} (hu : X.A.units + 1 < cLine) (hc : L2.Cls X.K C) (hn : NoAttr X.K C f) (hN : X.N[i]? = some x) (hv : Vis X.env.scope x) (hN2 : X.N[j]? = some y) (hv2 : Vis X.env.scope y) (hN3 : X.N[l]? = some w) (hv3 : Vis X.env.scope w) {ctx}
    (m : M1 X (.Attribute (.Name x npos) f fpos) "pop" apos (.Tuple [.Name y yp, .Name w wp] ctx x1) cpos)
    (hd : (x == ("__debug__" : Str)) = false := by decide) (hcd : (x == ("__classdict__" : Str)) = false := by decide) (hd2 : (y == ("__debug__" : Str)) = false := by decide) (hcd2 : (y == ("__classdict__" : Str)) = false := by decide)
    (hd3 : (w == ("__debug__" : Str)) = false := by decide) (hcd3 : (w == ("__classdict__" : Str)) = false := by decide)
    (hb : attributeBase (.Name x npos) f X.env (eval (.Name x npos) X.env) = eval (.Name x npos) X.env := by rfl) (hst : starEach [Expr.Name y yp, .Name w wp] X.env = (false, eval (.Name y yp) X.env) :: starEach [Expr.Name w wp] X.env := by rfl) (hst2 : starEach [Expr.Name w wp] X.env = (false, eval (.Name w wp) X.env) :: starEach [] X.env := by rfl)
    (hsw : swapsWith (.Call (.Attribute (.Attribute (.Name x npos) f fpos) "pop" apos) [.Tuple [.Name y yp, .Name w wp] ctx x1] [] cpos) none pos.line X.env = pure false := by rfl) :
    QS X F0 H0 (.Expr (.Call (.Attribute (.Attribute (.Name x npos) f fpos) "pop" apos) [.Tuple [.Name y yp, .Name w wp] ctx x1] [] cpos) pos) (cPopO C i f j l) := fun z E cx =>
  psC (ps_expr (X := X.wsh z) (pe_dpopS (X := X.wsh z) hu (pe_fld (X := X.wsh z) (pe_var (X := X.wsh z) (i := i) hN hv hd hcd) hb) (pe_tup (X := X.wsh z) (pa_cons (pe_var (X := X.wsh z) (i := j) hN2 hv2 hd2 hcd2) (pa_cons (pe_var (X := X.wsh z) (i := l) hN3 hv3 hd3 hcd3) pa_nil hst2) hst)) ⟨m.base, m.few, m.line, m.trees⟩) hsw) fun Dn σ H hq13 => by
    obtain ⟨F, Γ, D2, R1, ⟨k1, k2, as, fs, ts, ks, xs, d, g1, g2, e0, hl, hlk, hnx⟩, k⟩ := hq13
    obtain ⟨o2, e2, v2, rfl, r2⟩ := R1.sl j _ g1
    obtain ⟨o3, e3, v3, rfl, r3⟩ := R1.sl l _ g2
    have ev2 := rep_keyD r2
    subst ev2
    have ev3 := rep_keyD r3
    subst ev3
    obtain ⟨a, dx, vs, v0, bs, b1, cs, b2, e1, _, ea, hv0, _, _, _, rt, _⟩ := fld_own R1 e0 hl
    unfold TR at rt
    obtain ⟨c0, ws0, ds0, rfl, _, ec0, _, _⟩ := rt
    refine ⟨.ref a, e1, a, C, dx, _, .ref c0, rfl, ea, hc, hn, hv0, c0, rfl, .inr ⟨_, .inl ec0⟩, kV k1, e2, kV k2, e3, by show (2 : Nat) ≤ sizeLine; decide, fun p hp => ?_⟩
    obtain ⟨a', dx', vs', c, ws, e1', ea', hv', ec, hkl, rs, hcp, back⟩ := fld_chg (ks' := dropL ks [k1, k2]) (xs' := dropLX ks xs [k1, k2]) (key := [kV k1, kV k2]) R1 e0 hl hp
    rw [e1] at e1'; cases e1'
    have ez : fs.zip vs = fs.zip vs' := by rw [ea] at ea'; exact (HO.ins.inj (Option.some.inj ea')).2.2
    rw [← ez, hv0] at hv'; cases hv'
    obtain ⟨q1, q2⟩ := drop_zip (k := [k1, k2]) hkl
    obtain ⟨vv, hvv, rvv⟩ := val_lookL hlk rs
    refine ⟨ks.zip ws, [k1, k2], vv, by rw [upd_ne hcp]; exact ec, ⟨p, rfl, .inl (.inl upd_same)⟩, hvv, ?_⟩
    rw [q1]
    exact k.nx _ _ _ _ (back _ q2 (reps_dropL rs)) (.refl _) hnx
end
end L3

namespace L3
open PySem PySem.Spec PyProof.Rows L2

theorem putF_new {f : Str} {y : V} : ∀ {fs : List Str} {vs : List V}, fs.length = vs.length → f ∉ fs → putF f y (fs.zip vs) = (fs ++ [f]).zip (vs ++ [y])
  | [], [], _, _ => rfl
  | [], _ :: _, h, _ => by cases h
  | _ :: _, [], h, _ => by cases h
  | g :: fs, v :: vs, h, hf => by
    have hg : g ≠ f := fun e => hf (by simp [e])
    rw [List.zip_cons_cons]
    unfold putF
    rw [if_neg hg, putF_new (by simpa using h) fun e => hf (List.mem_cons_of_mem _ e)]
    rfl
def nDT : TN2 := fun Γ P _ => P (.dit [] []) Γ
def cSetA (C : Addr) (i : Nat) (f : Str) (te : TE2) : TS2 := fun D Γ E => te Γ (fun d Γ1 => ∃ as fs ts, Γ1[i]? = some (.tr as (.ob C fs ts)) ∧ f ∉ fs ∧ fs.length < 1000 ∧ mutF (fs ++ [f]) = true ∧ D.nx (Γ1.set i (.tr as (.ob C (fs ++ [f]) (ts ++ [.leaf d]))))) E
def cSetAN (C : Addr) (i : Nat) (f : Str) (tn : TN2) : TS2 := fun D Γ E => tn Γ (fun t Γ1 => ∃ as fs ts, Γ1[i]? = some (.tr as (.ob C fs ts)) ∧ f ∉ fs ∧ fs.length < 1000 ∧ mutF (fs ++ [f]) = true ∧ ∀ cs, D.nx (Γ1.set i (.tr (as ++ cs) (.ob C (fs ++ [f]) (ts ++ [t]))))) E
section
variable {X : Cx} {F0 H0 : Hp} {value e : Expr} {es : List Expr} {pos npos pos' p : Pos} {x f : Str} {C fa : Addr} {fd : FuncData} {ps : List Str} {i k : Nat} {te : TE2} {tn : TN2} {sp : SpM} {t : TF2}
theorem qn_dictT : QN X F0 H0 (.Dict [] [] pos) nDT := fun z E cx =>
  peC pe_dnewT fun σ H Q hq1 q hq => by
    obtain ⟨F, Γ, P, R, h, k⟩ := hq1
    have R2 : SR X.K F0 H0 F (upd H q (.dT [])) σ Γ := R.grow ⟨.refl _, fun b u e => by rw [upd_ne (ne_of_none (R.g b u e) hq)]; exact R.g b u e, fun b u e => by rw [upd_ne (ne_of_none e hq)]; exact e, fun b o e n => by rw [e] at n; cases n⟩
    refine k _ _ _ _ _ [q] R2 (.refl _) (by simp) (fun b hb => by rw [List.mem_singleton.mp hb]; exact ⟨R.g.free hq, R.gr.h.free hq, R.apart hq⟩) ?_ h
    unfold TR
    exact ⟨q, [], [], rfl, rfl, upd_same, rfl, by unfold TRs; exact ⟨rfl, rfl⟩⟩
theorem qs_setAN (hc : L2.Cls X.K C) (hn : NoAttr X.K C f) (he : QN X F0 H0 value tn) (hN : X.N[i]? = some x) (hv : Vis X.env.scope x) (hd : (x == ("__debug__" : Str)) = false := by decide) (hcd : (x == ("__classdict__" : Str)) = false := by decide)
    (hs : swapsWith value (some (.Attribute (.Name x npos) f pos')) pos.line X.env = pure false := by rfl) : QS X F0 H0 (.Assign [.Attribute (.Name x npos) f pos'] value pos) (cSetAN C i f tn) := fun z E cx =>
  psC (ps_fld (X := X.wsh z) (pe_var (X := X.wsh z) (i := i) hN hv hd hcd) (he z E cx) hs) fun Dn σ H hq2 => by obtain ⟨F, Γ, D2, R, h, k⟩ := hq2; exact ⟨F, Γ, _, R, h, fun t Γ1 F1 H1 v cs R1 s1 ndc hnc rt hq3 => by
    obtain ⟨as, fs, ts, e0, hf, hl, hmu, q⟩ := hq3
    obtain ⟨o, e1, w, rfl, nd, hn', r⟩ := R1.sl i _ e0
    unfold TR at r
    obtain ⟨a, dx, vs, bs, rfl, rfl, ea, ed, hlf, _, r⟩ := r
    refine ⟨.ref a, e1, a, C, dx, _, rfl, ea, hc, hn, by rw [List.length_zip, ← hlf, Nat.min_self]; exact hl, ?_⟩
    have own : ∀ b ∈ a :: dx :: bs, OwnAt Γ1 σ i b := fun b hb => ⟨_, _, e0, e1, hb⟩
    have dis : ∀ b ∈ a :: dx :: bs, b ∉ cs := fun b hb hc => (hnc b hc).2.2 i (own b hb)
    rw [List.nodup_cons, List.nodup_cons] at nd
    obtain ⟨n1, n2, n3⟩ := nd
    rw [putF_new hlf hf]
    refine k.nx _ _ _ _ (R1.wrT e0 e1 (show Own1 (Slot.tr (a :: dx :: bs) (.ob C fs ts)) (some (.ref a)) a from List.mem_cons_self) (t := .tr (a :: dx :: bs ++ cs) (.ob C (fs ++ [f]) (ts ++ [t]))) ⟨_, rfl, ?_, fun b hb => ?_, ?_⟩ fun b hb => ?_) s1 (q cs)
    · exact List.nodup_append.mpr ⟨List.nodup_cons.mpr ⟨n1, List.nodup_cons.mpr ⟨n2, n3⟩⟩, ndc, fun x hx y hy e => dis x hx (e ▸ hy)⟩
    · rcases List.mem_append.mp hb with hb | hb
      · exact hn' b hb
      · exact ⟨(hnc b hb).1, (hnc b hb).2.1⟩
    · unfold TR
      have na : ∀ b, b ∈ bs → b ≠ a := fun b hb z => n1 (z ▸ List.mem_cons_of_mem _ hb)
      refine ⟨a, dx, vs ++ [v], bs ++ cs, rfl, rfl, upd_same, ?_, by simp [hlf], hmu, ?_⟩
      · rw [upd_ne (fun z => n1 (by simp [z]))]; exact ed
      · have m := TRs.move (H' := upd H1 a (.ins C dx ((fs ++ [f]).zip (vs ++ [v])))) (.refl _) ts vs bs (fun b hb u q => by rw [upd_ne (na b hb)]; exact q) r
        have l := TR.move (H' := upd H1 a (.ins C dx ((fs ++ [f]).zip (vs ++ [v])))) (.refl _) t v cs (fun b hb u q => by rw [upd_ne (show b ≠ a from fun z => dis a List.mem_cons_self (z ▸ hb))]; exact q) rt
        exact trs_app m (trs_one l)
    · rcases List.mem_append.mp hb with hb | hb
      · exact .inl hb
      · exact .inr (hnc b hb).2.2⟩
theorem qs_setA (hc : L2.Cls X.K C) (hn : NoAttr X.K C f) (he : QE X F0 H0 value te) (hN : X.N[i]? = some x) (hv : Vis X.env.scope x) (hd : (x == ("__debug__" : Str)) = false := by decide) (hcd : (x == ("__classdict__" : Str)) = false := by decide)
    (hs : swapsWith value (some (.Attribute (.Name x npos) f pos')) pos.line X.env = pure false := by rfl) : QS X F0 H0 (.Assign [.Attribute (.Name x npos) f pos'] value pos) (cSetA C i f te) := fun z E cx =>
  psC (ps_fld (X := X.wsh z) (pe_var (X := X.wsh z) (i := i) hN hv hd hcd) (he z E cx) hs) fun Dn σ H hq4 => by obtain ⟨F, Γ, D2, R, h, k⟩ := hq4; exact ⟨F, Γ, _, R, h, fun d Γ1 F1 H1 v R1 s1 rd hq5 => by
    obtain ⟨as, fs, ts, e0, hf, hl, hmu, q⟩ := hq5
    obtain ⟨o, e1, w, rfl, nd, hn', r⟩ := R1.sl i _ e0
    unfold TR at r
    obtain ⟨a, dx, vs, bs, rfl, rfl, ea, ed, hlf, _, r⟩ := r
    refine ⟨.ref a, e1, a, C, dx, _, rfl, ea, hc, hn, by rw [List.length_zip, ← hlf, Nat.min_self]; exact hl, ?_⟩
    have nd0 := nd
    rw [List.nodup_cons, List.nodup_cons] at nd
    obtain ⟨n1, n2, n3⟩ := nd
    rw [putF_new hlf hf]
    refine k.nx _ _ _ _ (R1.wrT e0 e1 (show Own1 (Slot.tr (a :: dx :: bs) (.ob C fs ts)) (some (.ref a)) a from List.mem_cons_self) (t := .tr (a :: dx :: bs) (.ob C (fs ++ [f]) (ts ++ [.leaf d]))) ⟨_, rfl, nd0, hn', ?_⟩ fun b hb => .inl hb) s1 q
    unfold TR
    have na : ∀ b, b ∈ bs → b ≠ a := fun b hb z => n1 (z ▸ List.mem_cons_of_mem _ hb)
    refine ⟨a, dx, vs ++ [v], bs, rfl, rfl, upd_same, ?_, by simp [hlf], hmu, ?_⟩
    · rw [upd_ne (fun z => n1 (by simp [z]))]; exact ed
    · have m := TRs.move (H' := upd H1 a (.ins C dx ((fs ++ [f]).zip (vs ++ [v])))) (.refl _) ts vs bs (fun b hb u q => by rw [upd_ne (na b hb)]; exact q) r
      have l : TRs X.K F1 (upd H1 a (.ins C dx ((fs ++ [f]).zip (vs ++ [v])))) [.leaf d] [v] [] := trs_one (by unfold TR; exact ⟨rfl, rd⟩)
      have := trs_app m l
      rwa [List.append_nil] at this⟩
def cMakeO (C : Addr) (sp : SpM) (t : TF2) : TN2 := fun Γ P E => t Γ (fun ds Γ1 => sp (.ob C [] []) ds (fun t' _ => P t' Γ1) fun _ Cx => E Γ1 Cx) E
structure Mk2M (P : Program) (w : World) (K : PySem.W.Frag) (mg : Str → Option Value) (base : Heap) (x : Str) (C : Addr) (k : Nat) (ps : List Str) (sp : SpM) : Prop where
  ex : ∃ f fd, FnOk P w K mg base (CX1 P w) k f fd ps (spUpM K sp) ∧ Mk K C f ∧ mg x = some (.ref C) ∧ Binds K fd ps []
  non : ∀ ds Q Ex, sp (.ob C [] []) ds Q Ex → sp (.ob C [] []) ds (fun t d => d = .non ∧ Q t d) Ex
theorem qn_make (G : Mk2M X.prog X.w X.K X.mg X.base x C k ps sp) (hr : Room (k + 1) X.A) (hg : Gl X x)
    (ha : QA X F0 H0 (e :: es) t) (hdb : (x == ("__debug__" : Str)) = false := by decide) (he : starEach (e :: es) X.env = (false, eval e X.env) :: starEach es X.env := by rfl) (hpl : (backTo pos (starEach es X.env)).any (·.1) = false := by rfl) :
    QN X F0 H0 (.Call (.Name x p) (e :: es) [] pos) (cMakeO C sp t) := by
  obtain ⟨f, fd, Fn, M, hm, hb⟩ := G.ex
  rintro z E cx pins s σ H Q I ⟨F, Γ, P, R, h, kk⟩
  refine wpAny_Call_Name_kw (ld_glob (X := X.wsh z) I hg hm ?_ hdb)
  refine PySem.W.callWith_K (h₀ := X.base) I.ok.mod.kin M.kp (thn (ha z E cx pos pins s σ H (fun vs H1 => ∃ F1 Γ1 ds, SR X.K F0 H0 F1 H1 σ Γ1 ∧ Same F F1 ∧ Reps X.K F1 ds vs ∧ sp (.ob C [] []) ds (fun t' _ => P t' Γ1) fun _ Cx => E Γ1 Cx) I ⟨F, Γ, _, R, h, fun ds Γ1 F1 H1 vs R1 s1 r1 h1 => ⟨F1, Γ1, ds, R1, s1, r1, h1⟩⟩) fun us s1 hqq => ?_) he hpl
  obtain ⟨vs, H1, I1, r, F1, Γ1, ds, R1, sF, rs, q⟩ := hqq
  refine ⟨I1.kIn, ?_⟩
  have I2 := Inv.made (C := C) I1
  have n1 : H1 (s1.heap.objs.size + 1) = none := I1.hok.fresh (Nat.le_succ _)
  have n2 : H1 s1.heap.objs.size = none := I1.hok.fresh (Nat.le_refl _)
  have ne : s1.heap.objs.size ≠ s1.heap.objs.size + 1 := Nat.ne_of_lt (Nat.lt_succ_self _)
  have kp : ∀ b o, s1.heap.get? b = some o → ((s1.heap.push PySem.W.emptyDict).push (PySem.W.instObj C s1.heap.objs.size)).get? b = some o := fun b o e => Heap.get?_push_of_some _ (Heap.get?_push_of_some _ e)
  have sH : Same H1 (upd (upd H1 s1.heap.objs.size (.own (s1.heap.objs.size + 1))) (s1.heap.objs.size + 1) (.ins C s1.heap.objs.size [])) := fun b o e => by rw [upd_ne (ne_of_none e n1), upd_ne (ne_of_none e n2)]; exact e
  have hid : hideA [s1.heap.objs.size + 1, s1.heap.objs.size] (upd (upd H1 s1.heap.objs.size (.own (s1.heap.objs.size + 1))) (s1.heap.objs.size + 1) (.ins C s1.heap.objs.size [])) = H1 := by
    funext b
    by_cases hb1 : b = s1.heap.objs.size + 1
    · subst hb1; rw [hideA_in (by simp), n1]
    · by_cases hb2 : b = s1.heap.objs.size
      · subst hb2; rw [hideA_in (by simp), n2]
      · rw [hideA_out (by simp [hb1, hb2]), upd_ne hb1, upd_ne hb2]
  have hs : spUpM X.K sp (.ref (s1.heap.objs.size + 1) :: vs) (upd (upd H1 s1.heap.objs.size (.own (s1.heap.objs.size + 1))) (s1.heap.objs.size + 1) (.ins C s1.heap.objs.size [])) (fun v H' => v = .non ∧ Q (.ref (s1.heap.objs.size + 1)) H') (fun C' dx' H' => ∃ Γ' F', SR X.K F0 H0 F' H' σ Γ' ∧ Same F1 F' ∧ E Γ' C' ∧ dx' = none) := by
    refine ⟨F1, s1.heap.objs.size + 1, [s1.heap.objs.size], .ob C [] [], ds, vs, _, _, rfl, R1.g.trans sH, by simp [ne.symm], fun b hb => ?_, ?_, rs, G.non _ _ _ q, ?_, ?_⟩
    · have : H1 b = none := by
        rcases List.mem_cons.mp hb with rfl | hb
        · exact n1
        · rw [List.mem_singleton.mp hb]; exact n2
      exact R1.g.free this
    · unfold TR
      exact ⟨_, _, [], [], rfl, rfl, upd_same, by rw [upd_ne ne, upd_same], rfl, rfl, by unfold TRs; exact ⟨rfl, rfl⟩⟩
    · rintro t' d v cs F' H' gr nd hn rt rv ⟨ed, hp⟩
      rw [hid] at gr hn
      subst ed
      unfold Rep at rv
      exact ⟨rv, kk t' Γ1 F' H' _ _ (R1.grow gr) (sF.trans gr.f) nd (fun b hb => ⟨(hn b hb).1, R1.gr.h.free (hn b hb).2, R1.apart (hn b hb).2⟩) rt hp⟩
    · intro C' t' cs F' H' gr nd hn rt hE
      rw [hid] at gr
      exact ⟨Γ1, F', R1.grow gr, gr.f, hE, rfl⟩
  have hl : (Value.ref (s1.heap.objs.size + 1) :: us).length = ps.length := by
    have e := Fn.len _ _ _ _ hs
    rw [List.length_cons, ← r.length, ← List.length_cons (a := V.ref (s1.heap.objs.size + 1)), e]
  have hbs := hb { s1 with heap := (s1.heap.push PySem.W.emptyDict).push (PySem.W.instObj C s1.heap.objs.size) } (Value.ref (s1.heap.objs.size + 1) :: us) I2.kIn (by rw [List.append_nil]; exact hl)
  rw [List.append_nil] at hbs
  refine wpAny_call (make_map (f := f) I1.kIn M.makes M.init (beq_iff_eq.mp M.fn) ?_)
  refine codeAny_mono (Fn.run _ X.stack _ _ ⟨Value.ref (s1.heap.objs.size + 1) :: us, []⟩ (Value.ref (s1.heap.objs.size + 1) :: us) _ _ _ (hr.make C us []) (I2.env0.make C us []) hbs (.cons (show RelV (.ref (s1.heap.objs.size + 1)) (Value.ref (s1.heap.objs.size + 1)) from rfl) r) hs) fun r s' hq' => ?_
  cases r with
  | error e =>
    refine cx.pX pins σ Γ1 F1 H1 s1 e s' I1 R1 (cx1_rebase hq' rfl ?_ kp)
    have u1 : Un (frs X.stack) [] H1 (upd H1 s1.heap.objs.size (.own (s1.heap.objs.size + 1))) s1.heap (s1.heap.push PySem.W.emptyDict) := Un.laid (fun b u q => Heap.get?_push_of_some _ q) (Nat.le_refl _) n2
    have u2 : Un (frs X.stack) [] (upd H1 s1.heap.objs.size (.own (s1.heap.objs.size + 1))) (upd (upd H1 s1.heap.objs.size (.own (s1.heap.objs.size + 1))) (s1.heap.objs.size + 1) (.ins C s1.heap.objs.size [])) (s1.heap.push PySem.W.emptyDict) ((s1.heap.push PySem.W.emptyDict).push (PySem.W.instObj C s1.heap.objs.size)) := Un.laid (fun b u q => Heap.get?_push_of_some _ q) (Nat.le_of_eq (Heap.size_push _ _)) (by rw [upd_ne ne.symm]; exact n1)
    exact u1.trans u2
  | ok fl' =>
    cases fl' with
    | ret u =>
      obtain ⟨v, H', I3, rv, ev, q3⟩ := I2.after hq'
      subst ev
      exact ⟨rv, ⟨V.ref (s1.heap.objs.size + 1), H', I3, rfl, q3⟩⟩
    | next => exact False.elim hq'
    | brk => exact False.elim hq'
    | cont => exact False.elim hq'
end
def cMeth0 (C : Addr) (m : Str) (sp : Sp2) (te : TE2) : TE2 := fun Γ P E => te Γ (fun d Γ1 => match d with
  | .obj C' fs ds => C' = C ∧ m ∉ fs ∧ sp [.obj C' fs ds] (fun r => P r Γ1) fun Cx => E Γ1 Cx
  | _ => False) E
section
variable {X : Cx} {F0 H0 : Hp} {o : Expr} {pos apos : Pos} {m : Str} {C : Addr} {ps : List Str} {k : Nat} {sp : Sp2} {te : TE2}
theorem qe_meth0 {pl : Sem Bool} (G : Mt2 X.prog X.w X.K X.mg X.base C m k ps sp) (hc : L2.Cls X.K C) (hr : Room k X.A) (ho : QE X F0 H0 o te)
    (ht : eval (.Call (.Attribute o m apos) [] [] pos) X.env = (do
      let ov ← eval o X.env
      standAt apos.atName
      let (f, first) ← holding [ov] (getMethod ov m pl)
      callWith pos f first (backTo pos (starEach [] X.env)) (backToKw pos (keywordEach [] X.env))) := by rfl) :
    QE X F0 H0 (.Call (.Attribute o m apos) [] [] pos) (cMeth0 C m sp te) := by
  obtain ⟨fa, fd, Fn, hm, hb⟩ := G.ex
  rintro z E cx pins s σ H Q I ⟨F, Γ, P, R, h, kk⟩
  refine PySem.W.methodCall_KW (pl := pl) (thn (ho z E cx pins s σ H (fun v H1 => ∃ F1 Γ1 d, SR X.K F0 H0 F1 H1 σ Γ1 ∧ Same F F1 ∧ Rep X.K F1 d v ∧ (match d with
    | .obj C' fs ds => C' = C ∧ m ∉ fs ∧ sp [.obj C' fs ds] (fun r => P r Γ1) fun Cx => E Γ1 Cx
    | _ => False)) I ⟨F, Γ, _, R, h, fun d Γ1 F1 H1 v R1 s1 r1 h1 => ⟨F1, Γ1, d, R1, s1, r1, h1⟩⟩) fun u s1 hqq => ?_) ht
  obtain ⟨x, H1, I1, rx, F1, Γ1, d, R1, sF, rd, q⟩ := hqq
  cases d with
  | obj C' fs ds =>
    obtain ⟨rfl, hmf, q⟩ := q
    have rd0 := rd
    unfold Rep at rd
    obtain ⟨a, dx, vs, rfl, ea, hl, rs⟩ := rd
    obtain rfl : u = Value.ref a := rx
    refine getmeth_ok I1 (R1.g _ _ ea) hc hm (lookup_not hmf) ?_
    refine PySem.W.callWith_K0 (first := [.ref a]) I1.kIn hm.kp ?_
    exact run2 (us := [.ref a]) (vs := [.ref a]) Fn hr hb cx I1 R1 (.cons rfl .nil) (reps_cons rd0 (by unfold Reps; rfl)) q fun d v F' H' gr rv hp => kk d Γ1 F' H' v (R1.grow gr) (sF.trans gr.f) rv hp
  | _ => exact False.elim q
end
end L3

namespace L3
open PySem PySem.Spec PyProof.Rows L2

abbrev P2 := Str × Str
def ltP (a b : P2) : Bool := ltT a.1 b.1 || (decide (a.1 = b.1) && ltT a.2 b.2)
theorem ltP_irr (a : P2) : ltP a a = false := by unfold ltP; simp [ltT_irr]
theorem ltP_tr {a b c : P2} (h1 : ltP a b = true) (h2 : ltP b c = true) : ltP a c = true := by
  unfold ltP at *
  simp only [Bool.or_eq_true, Bool.and_eq_true, decide_eq_true_eq] at *
  rcases h1 with h1 | ⟨e1, h1⟩
  · rcases h2 with h2 | ⟨e2, h2⟩
    · exact .inl (ltT_tr h1 h2)
    · exact .inl (e2 ▸ h1)
  · rcases h2 with h2 | ⟨e2, h2⟩
    · exact .inl (e1 ▸ h2)
    · exact .inr ⟨e1.trans e2, ltT_tr h1 h2⟩
theorem ltP_asym {a b : P2} (h : ltP a b = true) : ltP b a = false := by
  cases q : ltP b a with
  | false => rfl
  | true => have := ltP_tr h q; rw [ltP_irr] at this; cases this
theorem ltP_tri {a b : P2} (h1 : ltP a b = false) (h2 : a ≠ b) : ltP b a = true := by
  unfold ltP at *
  simp only [Bool.or_eq_false_iff, Bool.and_eq_false_iff, decide_eq_false_iff_not, Bool.or_eq_true, Bool.and_eq_true, decide_eq_true_eq] at *
  by_cases e : a.1 = b.1
  · refine .inr ⟨e.symm, ltT_tri (h1.2.resolve_left fun z => z e) fun e2 => h2 (Prod.ext e e2)⟩
  · exact .inl (ltT_tri h1.1 e)
def pNo : P2 := (Str.empty, Str.empty)
def ltPX (xs : List P2) (i j : Nat) : Bool := ltP (xs.getD i pNo) (xs.getD j pNo)
theorem ord_pair {xs : List P2} (nd : xs.Nodup) : Ord (ltPX xs) xs.length := by
  have key := List.pairwise_iff_getElem.mp nd
  refine ⟨fun i j hi hj hij h => ?_, fun i j _ _ h => ltP_asym h, fun i j k _ _ _ h1 h2 => ltP_tr h1 h2⟩
  refine ltP_tri h ?_
  rw [getD_lt hi, getD_lt hj]
  rcases Nat.lt_or_gt_of_ne hij with q | q
  · exact key i j hi hj q
  · exact fun z => key j i hj hi q z.symm
def TupP (h : Heap) (v : Value) (p : P2) : Prop := ∃ (a : Addr) (o : Obj) (m : Nat) (t u : Tok), v = .ref a ∧ h.get? a = some o ∧ o.cls = .type "tuple" ∧ o.data = .seq #[.str p.1 t, .str p.2 u] m
theorem TupP.up {h h' : Heap} {v : Value} {p : P2} (q : TupP h v p) (k : ∀ b o, h.get? b = some o → h'.get? b = some o) : TupP h' v p := by
  obtain ⟨a, o, m, t, u, e, g, c, d⟩ := q
  exact ⟨a, o, m, t, u, e, k a o g, c, d⟩
theorem oneLt_strF {prog : Program} {w : World} {A : Around} {E : Value → Shared → Prop} {s : Shared} {a b : Str} {t u : Tok} {Q : Bool → Shared → Prop} (h : Q (ltT a b) s) : wpAny (model prog w) A (oneLt' false (.str a t) (.str b u)) Q E s := by
  rw [oneLt'_eq]
  simp only [Bool.false_eq_true, if_false]
  refine wpAny_bind (m := richCompare .Lt _ _) (wpAny_richCompare_same (typeIs_str _ a t) (typeIs_str _ b u) slot_str_lt (call_str_lt ⟨by simp, ?_⟩) rfl)
  exact wpAny_truthy_bool h
theorem cps_eq {a b : Str} : (a.cps.toList == b.cps.toList) = decide (a = b) := by
  by_cases q : a = b
  · subst q; simp
  · rw [decide_eq_false q]
    cases z : (a.cps.toList == b.cps.toList) with
    | false => rfl
    | true =>
      have e := eq_of_beq z
      exact absurd (by cases a; cases b; simp at e; rw [e]) q
theorem srtK_pair {prog : Program} {w : World} {A : Around} {E : Value → Shared → Prop} {ps : List P2} {vs : List Value} (hl : vs.length = ps.length) (nd : ps.Nodup) :
    SrtK prog w A E vs (ltPX ps) (fun h => ∀ i, i < ps.length → TupP h (vs.getD i Value.none) (ps.getD i pNo)) (tuples' true) := by
  refine ⟨fun s Q hT h2 hQ => ?_, fun s i j C hT hi hj hij hC => ?_⟩
  · have key : ∀ (vs : List Value) (ps : List P2), vs.length = ps.length → (∀ i, i < ps.length → TupP s.heap (vs.getD i Value.none) (ps.getD i pNo)) → ∃ fs : List Value, PySem.W.KatTups s.heap vs fs ∧ fs.length = vs.length ∧ ∀ v ∈ fs, ∃ x t, v = .str x t := by
      intro vs
      induction vs with
      | nil => intro ps _ _; exact ⟨[], .nil, rfl, fun _ z => by cases z⟩
      | cons v vs ih =>
        intro ps hl hT
        cases ps with
        | nil => cases hl
        | cons p ps =>
          obtain ⟨fs, h1, h2, h3⟩ := ih ps (by simpa using hl) fun i hi => by simpa using hT (i + 1) (by simpa using hi)
          obtain ⟨a, o, m, t, u, e, g, c, d⟩ := hT 0 (by simp)
          have e' : v = .ref a := e
          subst e'
          refine ⟨_ :: fs, .cons g c d (by rfl) h1, by simp [h2], fun v hv => ?_⟩
          rcases List.mem_cons.mp hv with rfl | hv
          · exact ⟨_, _, rfl⟩
          · exact h3 v hv
    obtain ⟨fs, q1, q2, q3⟩ := key vs ps hl hT
    refine PySem.W.kat_kind (T := .type "str") q1 (by omega) (fun v hv => ?_) rfl hQ
    obtain ⟨x, t, rfl⟩ := q3 v hv
    exact PySem.W.Looks.of_pure rfl
  · obtain ⟨a, o, m, t, u, e1, g1, _, d1⟩ := hT i (by omega)
    obtain ⟨b, o', m', t', u', e2, g2, _, d2⟩ := hT j (by omega)
    unfold PySem.W.kas_ask
    rw [e1, e2]
    refine PySem.W.kat_lt g1 d1 g2 d2 ?_
    show PySem.W.KatLex prog w A true _ _ [(Value.str (ps.getD i pNo).1 t, Value.str (ps.getD j pNo).1 t'), (Value.str (ps.getD i pNo).2 u, Value.str (ps.getD j pNo).2 u')] 0 s
    have hne : ps.getD i pNo ≠ ps.getD j pNo := by
      have key := List.pairwise_iff_getElem.mp nd
      rw [getD_lt (by omega), getD_lt (by omega)]
      rcases Nat.lt_or_gt_of_ne hij with q | q
      · exact key i j (by omega) (by omega) q
      · exact fun z => key j i (by omega) (by omega) q z.symm
    refine PySem.W.kat_cons (SeqRoads2.EqGives.str _ _ t t' prog w _ _ _ _ ?_)
    rw [cps_eq]
    by_cases q : (ps.getD i pNo).1 = (ps.getD j pNo).1
    · rw [decide_eq_true q]
      refine PySem.W.kat_yes (PySem.W.kat_cons (SeqRoads2.EqGives.str _ _ u u' prog w _ _ _ _ ?_))
      rw [cps_eq, decide_eq_false fun z => hne (Prod.ext q z)]
      refine PySem.W.kat_no (oneLt_strF ?_)
      have : ltPX ps i j = ltT (ps.getD i pNo).2 (ps.getD j pNo).2 := by
        unfold ltPX ltP
        rw [q, ltT_irr, decide_eq_true rfl, Bool.false_or, Bool.true_and]
      rw [← this]; exact hC
    · rw [decide_eq_false q]
      refine PySem.W.kat_no (oneLt_str ?_)
      have : ltPX ps i j = ltT (ps.getD i pNo).1 (ps.getD j pNo).1 := by
        unfold ltPX ltP
        rw [decide_eq_false q, Bool.false_and, Bool.or_false]
      have hC' := hC
      rw [this] at hC'; exact hC'
def pkK (p : P2) : List Key := [.inr p.1, .inr p.2]
def pairD (p : P2) : D := .tup [.str p.1, .str p.2]
def TupRef (H : Hp) (w : V) (p : P2) : Prop := ∃ b, w = .ref b ∧ H b = some (.tup [.str p.1, .str p.2])
def rSrtDT (X : Cx) : List V → Hp → VK → Prop := fun vs H Q => ∃ (q : Addr) (kvs : List (List Key × V)) (ps : List P2), vs = [.ref q] ∧ Rd H q (.dT kvs) ∧ kvs.map (·.1) = ps.map pkK ∧ ps.length < 64 ∧
  ∀ (l : Addr) (ms : List P2) (ws : List V), H l = none → ms.Perm ps → ms.Pairwise (fun a b => ltP a b = true) → ws.length = ms.length → (∀ (i : Nat) w p, ws[i]? = some w → ms[i]? = some p → TupRef H w p) → Q (.ref l) (upd H l (.lst ws))
theorem pkK_inj {p q : P2} (h : pkK p = pkK q) : p = q := by
  unfold pkK at h
  injection h with h1 h2
  injection h2 with h2 _
  injection h1 with h1
  injection h2 with h2
  exact Prod.ext h1 h2
theorem kt_keys {H : Hp} : ∀ {kvs : List (List Key × V)} {xs : List (List Key × Addr × Value)}, KT H kvs xs → xs.map (·.1) = kvs.map (·.1)
  | _, _, .nil => rfl
  | _, _, .cons h r => by rw [List.map_cons, List.map_cons, kt_keys r, h.1]
theorem kt_at {H : Hp} : ∀ {kvs : List (List Key × V)} {xs : List (List Key × Addr × Value)} {i : Nat} {x : List Key × Addr × Value}, KT H kvs xs → xs[i]? = some x → H x.2.1 = some (.tup (x.1.map kV))
  | _, _, _, _, .nil, e => by simp at e
  | _, _, 0, _, .cons h r, e => by simp at e; subst e; rw [← h.1]; exact h.2.1
  | _, _, i + 1, _, .cons h r, e => kt_at (i := i) r (by simpa using e)
theorem call_srtDT {X : Cx} (hc : X.calm = true) : CallR X (.builtin "sorted") (rSrtDT X) := by
  rintro pins s σ H xs us Q I r ⟨q, kvs, ps, e0, hq, hk, h64, k⟩
  subst e0
  obtain ⟨u, rfl, rx⟩ := vals1 r
  cases rx
  obtain ⟨hz, hsm, xs, rel, o, es, ep, ho, hec, hdt, hes, his, hnd⟩ := dt_rd I.hok hq
  have hkeys : xs.map (·.1) = ps.map pkK := (kt_keys rel).trans hk
  have hlx : xs.length = ps.length := by simpa using congrArg List.length hkeys
  have hls : es.size = xs.length := by rw [← Array.length_toList, hes, List.length_map]
  have line : (64 : Nat) ≤ sizeLine := by decide
  have nd : ps.Nodup := by
    rw [hkeys] at hnd
    unfold List.Nodup at hnd ⊢
    rw [List.pairwise_map] at hnd
    exact hnd.imp fun h z => h (by rw [z])
  have at_ : ∀ i, (hi : i < ps.length) → ∃ x : List Key × Addr × Value, xs[i]? = some x ∧ x.1 = pkK ps[i] := fun i hi => by
    have hx : i < xs.length := by omega
    refine ⟨xs[i], List.getElem?_eq_getElem hx, ?_⟩
    have : (xs.map (·.1))[i]? = (ps.map pkK)[i]? := by rw [hkeys]
    rw [List.getElem?_map, List.getElem?_map, List.getElem?_eq_getElem hx, List.getElem?_eq_getElem hi] at this
    simpa using this
  refine sorted_ord (collect_raw (by simp [I.ok.hd hc]) hsm ⟨o, ho, hec, hdt⟩ (by omega) fun vals h1 tk hv hlt hold => ?_)
  have hvl : vals.length = ps.length := by rw [hv, List.length_map, Array.length_toList]; omega
  have hval : ∀ i, (hi : i < ps.length) → ∃ b, vals.getD i Value.none = .ref b ∧ H b = some (.tup [.str ps[i].1, .str ps[i].2]) := fun i hi => by
    obtain ⟨x, ex, ek⟩ := at_ i hi
    refine ⟨x.2.1, ?_, ?_⟩
    · rw [List.getD_eq_getElem?_getD, hv, hes, List.map_map, List.getElem?_map, ex]; rfl
    · have := kt_at rel ex
      rw [ek] at this; exact this
  have hT : ∀ i, i < ps.length → TupP s.heap (vals.getD i Value.none) (ps.getD i pNo) := fun i hi => by
    obtain ⟨b, e1, e2⟩ := hval i hi
    rw [getD_lt hi]
    obtain ⟨_, its, rv, o', h2, h3, n, h4⟩ := (show ObjOk X.prog X.w H s.heap b (.tup [.str ps[i].1, .str ps[i].2]) from I.hok b _ e2)
    cases rv with
    | cons r0 rr =>
      cases rr with
      | cons r1 rr =>
        cases rr
        obtain ⟨t, rfl⟩ := r0
        obtain ⟨t', rfl⟩ := r1
        exact ⟨b, o', n, t, t', e1, h2, h3, h4⟩
  refine ⟨ltPX ps, _, _, by rw [hvl]; exact ord_pair nd, by omega, srtK_pair hvl nd, fun h2 k2 i hi => (hT i hi).up fun b o e => k2 b o (hold b o e), fun l h' is e hle a1 a2 hl hold2 => ?_⟩
  have hsz : s.heap.objs.size ≤ l := Nat.le_trans (Nat.le_of_lt hlt) hle
  have hix : ∀ i ∈ is, i < ps.length := fun i hi => by rw [← hvl]; exact List.mem_range.mp (a1.mem_iff.mp hi)
  have hlen : is.length = ps.length := by rw [a1.length_eq, List.length_range, hvl]
  -- the values, by their places
  have hws : ∀ i ∈ is, ∃ b, vals.getD i Value.none = .ref b ∧ TupRef H (.ref b) (ps.getD i pNo) := fun i hi => by
    obtain ⟨b, e1, e2⟩ := hval i (hix i hi)
    exact ⟨b, e1, b, rfl, by rw [getD_lt (hix i hi)]; exact e2⟩
  obtain ⟨ws, hw1, hw2, hw3⟩ : ∃ ws : List V, Vals ws (is.map fun i => vals.getD i Value.none) ∧ ws.length = is.length ∧ ∀ (j : Nat) w p, ws[j]? = some w → (pick pNo ps is)[j]? = some p → TupRef H w p := by
    clear a1 a2 hl hlen hix
    unfold pick
    induction is with
    | nil => exact ⟨[], .nil, rfl, fun j w p e => by simp at e⟩
    | cons i is ih =>
      obtain ⟨ws, h1, h2, h3⟩ := ih fun j hj => hws j (List.mem_cons_of_mem _ hj)
      obtain ⟨b, e1, e2⟩ := hws i List.mem_cons_self
      refine ⟨.ref b :: ws, .cons (by show RelV (.ref b) (vals.getD i Value.none); rw [e1]; exact rfl) h1, by simp [h2], fun j w p q1 q2 => ?_⟩
      cases j with
      | zero => simp at q1 q2; subst q1 q2; simpa using e2
      | succ j => exact h3 j w p (by simpa using q1) (by simpa using q2)
  have I2 : Inv X pins σ (upd H l (.lst ws)) { s with heap := h', toks := tk } :=
    I.laid (t' := tk) (fun b ob eb => hold2 b ob (hold b ob eb)) hsz (show ObjOk X.prog X.w _ _ _ (.lst ws) from ⟨by omega, _, e, hw1, hl⟩)
  refine ⟨.ref l, _, I2, rfl, k l (pick pNo ps is) ws (I.hok.fresh hsz) (pik_perm (by rw [← hvl]; exact a1)) ?_ (by unfold pick; rw [List.length_map, hw2]) hw3⟩
  unfold pick
  rw [List.pairwise_map]
  exact a2
def n_srtDT : List D → (List D → Prop) → Prop := fun ds P => match ds with
  | [.dit ks _] => ∃ ps : List P2, ks = ps.map pkK ∧ ps.length < 64 ∧ ∀ ms : List P2, ms.Perm ps → ms.Pairwise (fun a b => ltP a b = true) → P (ms.map pairD)
  | _ => False
theorem reps_pairs {K : PySem.W.Frag} {F : Hp} : ∀ {ms : List P2} {ws : List V}, ws.length = ms.length → (∀ (i : Nat) w p, ws[i]? = some w → ms[i]? = some p → TupRef F w p) → Reps K F (ms.map pairD) ws
  | [], [], _, _ => by unfold List.map Reps; rfl
  | [], _ :: _, h, _ => by cases h
  | _ :: _, [], h, _ => by cases h
  | p :: ms, w :: ws, h, k => by
    rw [List.map_cons]
    obtain ⟨b, rfl, e⟩ := k 0 w p rfl rfl
    refine reps_cons ?_ (reps_pairs (by simpa using h) fun i w p q1 q2 => k (i + 1) w p (by simpa using q1) (by simpa using q2))
    unfold pairD Rep
    exact ⟨b, _, rfl, .inl (.inl e), reps_cons (by unfold Rep; rfl) (reps_cons (by unfold Rep; rfl) (by unfold Reps; rfl))⟩
section
variable {X : Cx} {F0 H0 : Hp} {a : Expr} {pos p : Pos} {t : TF2}
theorem qf_srtDT (hc : X.calm = true) (hg : Gl X "sorted") (hm : X.mg "sorted" = none) (ha : QA X F0 H0 [a] t) (hb : bootBuiltins "sorted" = some (.builtin "sorted") := by decide +kernel)
    (he : starEach [a] X.env = (false, eval a X.env) :: starEach [] X.env := by rfl) : QF X F0 H0 (.Call (.Name "sorted" p) [a] [] pos) (fCB n_srtDT t) := fun z E cx => by
  refine peC (pe_callB (X := X.wsh z) (call_srtDT hc) hg hm hb (ha z E cx) (by decide) (by decide) he rfl) fun σ H Q hq1 => ?_
  obtain ⟨F, Γ, P, R, h, k⟩ := hq1
  refine ⟨F, Γ, _, R, h, fun ds Γ1 F1 H1 vs R1 s1 r1 h1 => ?_⟩
  unfold n_srtDT at h1
  split at h1
  · unfold Reps Reps Rep at r1
    obtain ⟨v, _, rfl, ⟨l, us, rfl, hq, hkl, rs⟩, rfl⟩ := r1
    obtain ⟨ps, rfl, h64, h1⟩ := h1
    refine ⟨l, _, ps, rfl, .inl (R1.g _ _ hq), ?_, h64, fun l2 ms ws hl2 pm pw hwl hw => ?_⟩
    · rw [List.map_fst_zip (by omega)]
    · have R2 := R1.tups
      obtain ⟨R3, q1, q2, q3, ap⟩ := new_lst R2 hl2 (reps_pairs (K := X.K) (F := tupF F1 H1) hwl fun i w p e1 e2 => by
        obtain ⟨b, rfl, eb⟩ := hw i w p e1 e2
        exact ⟨b, rfl, tupF_at R1.g eb⟩)
      exact k _ Γ1 _ _ l2 _ R3 (s1.trans tupF_sub) q1 q2 q3 (reps_pairs hwl fun i w p e1 e2 => by
        obtain ⟨b, rfl, eb⟩ := hw i w p e1 e2
        exact ⟨b, rfl, tupF_at R1.g eb⟩) ap (h1 ms pm pw)
  · exact h1.elim
end
end L3

namespace L3
open PySem PySem.Spec PyProof.Rows L2

def signs (x : Str) : List Str := x.cps.toList.map fun c => ⟨#[c]⟩
def Itx (x : Str) : It := ⟨fun i _ => i < x.cps.size, fun i H v H' => H' = H ∧ ∃ c, x.cps[i]? = some c ∧ v = .str ⟨#[c]⟩, fun i _ => x.cps.size ≤ i⟩
theorem turn_str {P : Program} {w : World} {K : PySem.W.Frag} {tg : Expr} (wide : Bool) (it : Addr) (x : Str) (t : Tok) : Turn P w K tg (Itx x) [it] it (fun i h => i ≤ x.cps.size ∧ h.IsStrIter it (if wide then "str_iterator" else "str_ascii_iterator") x t i) where
  mem := by simp
  obj := fun i h st b hb => by
    obtain rfl : b = it := by simpa using hb
    obtain ⟨_, o, e, c, d⟩ := st
    exact ⟨o, e, fun v z => by rw [d] at z; cases z⟩
  keep := fun i h h' st k => ⟨st.1, let ⟨o, ho, r⟩ := st.2; ⟨o, k it (by simp) o ho, r⟩⟩
  item := by
    intro X hP hw hK hc i pins s σ H E I hf st hg
    subst hP hw hK
    obtain ⟨f0, f1, f2, f3, f4, f5⟩ := hf it (by simp)
    have hx : i < x.cps.size := hg
    cases wide with
    | true =>
      refine wpAny_pyNext_wide_item st.2 (c := x.cps[i]) (by simp [hx]) fun h' hit' sb => ?_
      have I1 : Inv X pins σ H { s with heap := h', toks := s.toks + 1 } := I.turned (t' := s.toks + 1) (fun b o hb e => (sb.2 b hb).trans e) f0 f1 f3 f4 f5
      obtain ⟨o', e, c, d⟩ := id hit'
      exact ⟨_, rfl, go_of (s := { s with heap := h', toks := s.toks + 1 }) e c d (by decide) ⟨.str ⟨#[x.cps[i]]⟩, H, I1, ⟨_, rfl⟩, ⟨rfl, _, by simp [hx], rfl⟩, ⟨hx, hit'⟩, fun b hb => (hf b hb).1⟩⟩
    | false =>
      refine wpAny_pyNext_ascii_item st.2 (c := x.cps[i]) (by simp [hx]) fun h' hit' sb => ?_
      have I1 : Inv X pins σ H { s with heap := h', toks := s.toks + 1 } := I.turned (t' := s.toks + 1) (fun b o hb e => (sb.2 b hb).trans e) f0 f1 f3 f4 f5
      obtain ⟨o', e, c, d⟩ := id hit'
      exact ⟨_, rfl, go_of (s := { s with heap := h', toks := s.toks + 1 }) e c d (by decide) ⟨.str ⟨#[x.cps[i]]⟩, H, I1, ⟨_, rfl⟩, ⟨rfl, _, by simp [hx], rfl⟩, ⟨hx, hit'⟩, fun b hb => (hf b hb).1⟩⟩
  done := by
    intro X hP hw hK hc i pins s σ H E I hf st hg
    subst hP hw hK
    obtain ⟨f0, f1, f2, f3, f4, f5⟩ := hf it (by simp)
    have hx : x.cps.size ≤ i := hg
    cases wide with
    | true => exact wpAny_pyNext_wide_end (I.ok.hd hc) st.2 (by simp [hx]) fun h' eb => ⟨rfl, I.turned (t' := s.toks) (fun b o hb e => eb b o hb e) f0 f1 f3 f4 f5⟩
    | false => exact wpAny_pyNext_ascii_end (I.ok.hd hc) st.2 (by simp [hx]) fun h' eb => ⟨rfl, I.turned (t' := s.toks) (fun b o hb e => eb b o hb e) f0 f1 f3 f4 f5⟩
  self := fun _ _ _ _ _ st h => by
    cases wide with
    | true => exact wpAny_pyIter_striter_wide st.2 h
    | false => exact wpAny_pyIter_striter_ascii st.2 h
def iTxt (te : TE) : TI := fun σ H R => te σ H fun v H1 => ∃ x, v = .str x ∧ R (Itx x) H1
theorem pi_txt {X : Cx} {e tg : Expr} {te : TE} (he : PE X e te) : PI X tg e (iTxt te) := by
  intro pins s σ H R I h
  refine thn (he pins s σ H _ I h) fun v s1 hq1 => ?_
  obtain ⟨y, H1, I1, r1, x, ey, q⟩ := hq1
  subst ey
  obtain ⟨t, rfl⟩ := r1
  cases ha : x.cps.all (· < 128) with
  | false =>
    refine wpAny_pyIter_wide ha ⟨s1.heap.objs.size, [s1.heap.objs.size], _, _, H1, rfl, I1.kept (t' := s1.toks) fun b o e => Heap.get?_push_of_some _ e, turn_str true _ x t, ⟨Nat.zero_le _, _, Heap.get?_push_size _ rfl, rfl, rfl⟩, fun b hb => ?_, q⟩
    obtain rfl : b = s1.heap.objs.size := by simpa using hb
    exact I1.fpOk (Nat.le_refl _) (I1.hok.fresh (Nat.le_refl _))
  | true =>
    refine wpAny_pyIter_ascii ha ⟨s1.heap.objs.size, [s1.heap.objs.size], _, _, H1, rfl, I1.kept (t' := s1.toks) fun b o e => Heap.get?_push_of_some _ e, turn_str false _ x t, ⟨Nat.zero_le _, _, Heap.get?_push_size _ rfl, rfl, rfl⟩, fun b hb => ?_, q⟩
    obtain rfl : b = s1.heap.objs.size := by simpa using hb
    exact I1.fpOk (Nat.le_refl _) (I1.hok.fresh (Nat.le_refl _))
def i_txt (te : TE2) : TF2 := fun Γ P E => te Γ (fun d Γ1 => match d with | .str x => x.length ≤ sizeLine ∧ P ((signs x).map .str) Γ1 | _ => False) E
section
variable {X : Cx} {F0 H0 : Hp} {e tg : Expr} {te : TE2}
theorem qi_txt (he : QE X F0 H0 e te) : QI X F0 H0 tg e (i_txt te) := fun z E cx => piC (pi_txt (X := X.wsh z) (he z E cx)) fun σ H R hq2 => by obtain ⟨F, Γ, P, S, q, k⟩ := hq2; exact ⟨F, Γ, _, S, q, fun d Γ1 F1 H1 v R1 s1 r1 h1 => by
    split at h1
    · rename_i x
      unfold Rep at r1
      refine ⟨x, r1, k _ Γ1 F1 H1 _ R1 s1 ⟨?_, fun i H2 F2 s2 s3 _ => ⟨fun e => ?_, fun d hd => ?_⟩⟩ h1.2⟩
      · unfold signs; rw [List.length_map, List.length_map, Array.length_toList]; exact h1.1
      · show x.cps.size ≤ i
        rw [e]; unfold signs; rw [List.length_map, List.length_map, Array.length_toList]; exact Nat.le_refl _
      · unfold signs at hd
        rw [List.getElem?_map, List.getElem?_map, Array.getElem?_toList] at hd
        cases q : x.cps[i]? with
        | none => rw [q] at hd; cases hd
        | some c =>
          rw [q] at hd; cases hd
          have hi : i < x.cps.size := (Array.getElem?_eq_some_iff.mp q).1
          refine ⟨hi, fun y H' z => ?_⟩
          obtain ⟨rfl, c', q', rfl⟩ := z
          rw [q] at q'; cases q'
          exact ⟨F2, Gr.refl s3, by unfold Rep; rfl⟩
    · exact h1.elim⟩
end
def gLeT : D → D → (D → Prop) → Prop := fun x y P => match x, y with | .str a, .str b => P (.bl (!ltT b a)) | _, _ => False
theorem o_leT {X : Cx} : OpR X (compareOp .LtE) (rUp X.K gLeT) := by
  rintro pins s σ H x y u w Q I rx ry ⟨F, d1, d2, P, sF, r1, r2, h, k⟩
  unfold gLeT at h
  split at h
  · unfold Rep at r1 r2
    subst r1 r2
    obtain ⟨t, rfl⟩ := rx
    obtain ⟨t', rfl⟩ := ry
    exact PySem.P.le_str ⟨.bl _, H, I, rfl, k _ _ F H (Gr.refl sF) (by unfold Rep; rfl) h⟩
  · exact h.elim
def takS (x : Str) (b : Nat) : Str := ⟨(x.cps.toList.take b).toArray⟩
def drpS (x : Str) (a : Nat) : Str := ⟨(x.cps.toList.drop a).toArray⟩
theorem made_post {x y : Str} {t : Tok} {l u : Option (Int × Tok)} {Q : Value → Shared → Prop} {s : Shared} (hx : x.length ≤ sizeLine) (hy : (⟨((slicePicked x l u none).filterMap (x.cps[·]?)).toArray⟩ : Str) = y) (hly : y.length ≤ x.length)
    (hfull : (slicePicked x l u none).length = x.length → y = x) (h : ∀ t' k, Q (.str y t') { s with toks := k }) : (sliceMade x t l u none).post Q s := by
  unfold sliceMade
  split
  · rename_i q
    simp only [Bool.and_eq_true, beq_iff_eq] at q
    have := hfull q.2
    subst this
    exact h t s.toks
  · rw [hy]
    exact ⟨Nat.le_trans hly hx, h _ _⟩
theorem idx_to (n : Nat) (b : Nat) : Builtin.Str.strSliceIndices none (some (b : Int)) 1 n = (List.range (min b n)).map fun k => 0 + k := by
  have e : Builtin.Str.strSliceIndices none (some (b : Int)) 1 n = Builtin.Str.strSliceIndices (some ((0 : Nat) : Int)) (some ((min b n : Nat) : Int)) 1 n := by
    unfold Builtin.Str.strSliceIndices
    simp only [show ((1 : Int) > 0) = True from by simp, if_true]
    have h1 : ¬ ((b : Int) < 0) := by omega
    have h2 : ¬ (((min b n : Nat) : Int) < 0) := by omega
    have h3 : ¬ (((0 : Nat) : Int) < 0) := by omega
    rw [if_neg h1, if_neg h2, if_neg h3]
    congr 1 <;> omega
  rw [e, StrLaws.strSliceIndices_plain (Nat.zero_le _) (Nat.min_le_right _ _), Nat.sub_zero]
theorem idx_fr (n : Nat) (a : Nat) : Builtin.Str.strSliceIndices (some (a : Int)) none 1 n = (List.range (n - min a n)).map fun k => min a n + k := by
  have e : Builtin.Str.strSliceIndices (some (a : Int)) none 1 n = Builtin.Str.strSliceIndices (some ((min a n : Nat) : Int)) (some ((n : Nat) : Int)) 1 n := by
    unfold Builtin.Str.strSliceIndices
    simp only [show ((1 : Int) > 0) = True from by simp, if_true]
    have h1 : ¬ ((a : Int) < 0) := by omega
    have h2 : ¬ (((min a n : Nat) : Int) < 0) := by omega
    have h3 : ¬ (((n : Nat) : Int) < 0) := by omega
    rw [if_neg h1, if_neg h2, if_neg h3]
    congr 1 <;> omega
  rw [e, StrLaws.strSliceIndices_plain (Nat.min_le_right _ _) (Nat.le_refl _)]
def rSlS : V → Option Int → Option Int → Hp → VK → Prop := fun x lo hi H Q => ∃ z : Str, x = .str z ∧ z.length ≤ sizeLine ∧ ((∃ b : Nat, lo = none ∧ hi = some (b : Int) ∧ Q (.str (takS z b)) H) ∨ ∃ a : Nat, lo = some (a : Int) ∧ hi = none ∧ Q (.str (drpS z a)) H)
theorem str_len (z : Str) : z.cps.toList.length = z.length := by rw [Array.length_toList]; rfl
theorem sl_str {X : Cx} : SlR X rSlS := by
  rintro pins s σ H x v vl vu lo hi sl Q I rx hs pl pu ⟨z, e, hz, h⟩
  subst e
  obtain ⟨t, rfl⟩ := rx
  have ed : ∀ y : Str, y.cps.toList = z.cps.toList → y = z := fun y h => by
    cases y; cases z; simp at h; rw [h]
  refine ⟨"str", _, PySem.F.slot_str_getitem.lookup, typeIs_str _ _ _, ?_⟩
  obtain ⟨o, h1, h2, h3⟩ := hs
  rcases h with ⟨b, rfl, rfl, h⟩ | ⟨a, rfl, rfl, h⟩
  · cases pl
    cases pu with
    | int _ tu =>
      have hp : slicePicked z none (some ((b : Int), tu)) none = (List.range (min b z.length)).map fun k => 0 + k := idx_to z.length b
      refine wpAny_getItem_str_slice (l := none) (u := some ((b : Int), tu)) (st := none) ⟨o, h1, h2, h3⟩ rfl (made_post (y := takS z b) hz ?_ ?_ ?_ fun t' k => ⟨.str (takS z b), H, I.tok k, ⟨t', rfl⟩, h⟩)
      · rw [hp]
        have := StrLaws.picks z.cps.toList (min b z.length) 0 (by rw [str_len]; omega)
        unfold takS
        rw [show ((List.range (min b z.length)).map fun k => 0 + k).filterMap (z.cps[·]?) = ((List.range (min b z.length)).map fun k => 0 + k).filterMap (z.cps.toList[·]?) from by simp, this, List.drop_zero]
        congr 2
        rw [List.take_eq_take_iff, str_len]; omega
      · unfold takS; show (z.cps.toList.take b).toArray.size ≤ z.length; rw [List.size_toArray, List.length_take, str_len]; omega
      · rw [hp, List.length_map, List.length_range]
        intro q
        refine ed _ ?_
        show z.cps.toList.take b = _
        rw [List.take_of_length_le (by rw [str_len]; omega)]
  · cases pu
    cases pl with
    | int _ tl =>
      have hp : slicePicked z (some ((a : Int), tl)) none none = (List.range (z.length - min a z.length)).map fun k => min a z.length + k := idx_fr z.length a
      refine wpAny_getItem_str_slice (l := some ((a : Int), tl)) (u := none) (st := none) ⟨o, h1, h2, h3⟩ rfl (made_post (y := drpS z a) hz ?_ ?_ ?_ fun t' k => ⟨.str (drpS z a), H, I.tok k, ⟨t', rfl⟩, h⟩)
      · rw [hp]
        have := StrLaws.picks z.cps.toList (z.length - min a z.length) (min a z.length) (by rw [str_len]; omega)
        unfold drpS
        rw [show ((List.range (z.length - min a z.length)).map fun k => min a z.length + k).filterMap (z.cps[·]?) = ((List.range (z.length - min a z.length)).map fun k => min a z.length + k).filterMap (z.cps.toList[·]?) from by simp, this]
        congr 2
        rw [List.take_of_length_le (by rw [List.length_drop, str_len]; omega)]
        by_cases q : a ≤ z.length
        · rw [Nat.min_eq_left q]
        · rw [Nat.min_eq_right (by omega), List.drop_eq_nil_of_le (by rw [str_len]; omega), List.drop_eq_nil_of_le (by rw [str_len]; omega)]
      · unfold drpS; show (z.cps.toList.drop a).toArray.size ≤ z.length; rw [List.size_toArray, List.length_drop, str_len]; omega
      · rw [hp, List.length_map, List.length_range]
        intro q
        refine ed _ ?_
        show z.cps.toList.drop a = _
        by_cases hz0 : z.length = 0
        · rw [List.drop_eq_nil_of_le (by rw [str_len]; omega)]
          exact (List.eq_nil_of_length_eq_zero (by rw [str_len]; exact hz0)).symm
        · have : a = 0 := by omega
          rw [this, List.drop_zero]
def cSlS (te : TE2) (tl th : TO2) : TE2 := fun Γ P E => te Γ (fun d Γ1 => tl Γ1 (fun l Γ2 => th Γ2 (fun u Γ3 => match d with
  | .str z => z.length ≤ sizeLine ∧ ((∃ b : Nat, l = none ∧ u = some (b : Int) ∧ P (.str (takS z b)) Γ3) ∨ ∃ a : Nat, l = some (a : Int) ∧ u = none ∧ P (.str (drpS z a)) Γ3)
  | _ => False) E) E) E
section
variable {X : Cx} {F0 H0 : Hp} {e : Expr} {lo hi : Option Expr} {pos p2 : Pos} {te : TE2} {tl th : TO2}
theorem qe_sliceS (he : QE X F0 H0 e te) (hl : QO X F0 H0 lo tl) (hu : QO X F0 H0 hi th) : QE X F0 H0 (.Subscript e (.Slice lo hi none p2) pos) (cSlS te tl th) := fun z E cx =>
  peC (pe_slice (X := X.wsh z) sl_str (he z E cx) (hl z E cx) (hu z E cx)) fun σ H Q hq3 => by obtain ⟨F, Γ, P, R, h, k⟩ := hq3; exact ⟨F, Γ, _, R, h, fun d Γ1 F1 H1 v R1 s1 r1 h1 => ⟨F1, Γ1, _, R1, h1, fun l Γ2 F2 H2 R2 s2 h2 => ⟨F2, Γ2, _, R2, h2, fun u Γ3 F3 H3 R3 s3 h3 => by
    split at h3
    · rename_i y
      unfold Rep at r1
      subst r1
      obtain ⟨hz, h3⟩ := h3
      refine ⟨y, rfl, hz, ?_⟩
      rcases h3 with ⟨b, e1, e2, h3⟩ | ⟨a, e1, e2, h3⟩
      · exact .inl ⟨b, e1, e2, k _ Γ3 F3 H3 _ R3 (s1.trans (s2.trans s3)) (by unfold Rep; rfl) h3⟩
      · exact .inr ⟨a, e1, e2, k _ Γ3 F3 H3 _ R3 (s1.trans (s2.trans s3)) (by unfold Rep; rfl) h3⟩
    · exact h3.elim⟩⟩⟩
end
theorem upper_az : ∀ c : Nat, 97 ≤ c → c ≤ 122 → (PySem.placed (⟨#[c]⟩ : Str) fun _ c => Unicode.upperOf c) = #[c - 32] := by
  intro c h1 h2
  have key : ∀ k : Fin 26, (PySem.placed (⟨#[97 + k.1]⟩ : Str) fun _ c => Unicode.upperOf c) = #[65 + k.1] := by decide +kernel
  have := key ⟨c - 97, by omega⟩
  have e1 : 97 + (c - 97) = c := by omega
  have e2 : 65 + (c - 97) = c - 32 := by omega
  simpa [e1, e2] using this
def cUp (te : TE2) : TE2 := fun Γ P E => te Γ (fun d Γ1 => match d with | .str z => ∃ c : Nat, z = ⟨#[c]⟩ ∧ 97 ≤ c ∧ c ≤ 122 ∧ P (.str ⟨#[c - 32]⟩) Γ1 | _ => False) E
section
variable {X : Cx} {F0 H0 : Hp} {o : Expr} {apos cpos : Pos} {te : TE2}
theorem qe_upper (he : QE X F0 H0 o te) (hbase : attributeBase o "upper" X.env (eval o X.env) = eval o X.env := by rfl) (hline : (apos.endLine == cpos.line) = true := by rfl) : QE X F0 H0 (.Call (.Attribute o "upper" apos) [] [] cpos) (cUp te) := fun z E cx => by
  refine peC (pe_bm0 (X := X.wsh z) (T := "str") (id := "str.upper") (r := fun x vs H Q => ∃ c : Nat, x = .str ⟨#[c]⟩ ∧ 97 ≤ c ∧ c ≤ 122 ∧ vs = [] ∧ Q (.str ⟨#[c - 32]⟩) H) PySem.F.plainAttrs_str PySem.F.slot_str_upper PySem.F.type_str_upper ?_ (he z E cx) hbase hline) fun σ H Q ⟨F, Γ, P, R, h, k⟩ => ⟨F, Γ, _, R, h, fun d Γ1 F1 H1 v R1 s1 r1 h1 => ?_⟩
  · rintro pins s σ H x xs v us Q I rx rs ⟨c, e, h1, h2, e0, q⟩
    subst e e0
    obtain ⟨t, rfl⟩ := rx
    cases rs
    have hu := upper_az c h1 h2
    refine call_gives PySem.F.slot_str_upper (typeIs_str _ _ _) PySem.F.entry_str_upper (PySem.F.args_str_upper_1 _) (gives_str_upper ⟨#[c]⟩ t (by rw [hu]; rfl)) ?_
    show (⟨_⟩ : Str).length ≤ sizeLine ∧ _
    rw [hu]
    exact ⟨by show (1 : Nat) ≤ sizeLine; decide, .str ⟨#[c - 32]⟩, H, I.tok _, ⟨_, rfl⟩, q⟩
  · split at h1
    · unfold Rep at r1
      subst r1
      obtain ⟨c, rfl, h2, h3, hp⟩ := h1
      exact ⟨rfl, c, rfl, h2, h3, rfl, k _ Γ1 F1 H1 _ R1 s1 (by unfold Rep; rfl) hp⟩
    · exact h1.elim
end
def u_index : List D → D → (D → Prop) → Prop := fun xs y P => match y with
  | .bl true => ∃ (bs : List Bool) (j : Nat), xs = bs.map .bl ∧ bs[j]? = some true ∧ (∀ m, m < j → bs[m]? = some false) ∧ bs.length < 1000 ∧ P (.int j)
  | _ => False
def cIdx (ta tb : TE2) : TE2 := fun Γ P E => ta Γ (fun d Γ1 => match d with | .lst xs => tb Γ1 (fun y Γ2 => u_index xs y fun r => P r Γ2) E | _ => False) E
theorem vals_bls {bs : List Bool} : ∀ {its : List Value}, Vals (bs.map V.bl) its → its = bs.map Value.bool := by
  induction bs with
  | nil => intro its h; cases h; rfl
  | cons b bs ih =>
    intro its h
    cases h with
    | cons h0 hr =>
      cases h0
      rw [ih hr]; rfl
theorem reps_bls {K : PySem.W.Frag} {F : Hp} {bs : List Bool} : ∀ {vs : List V}, Reps K F (bs.map .bl) vs → vs = bs.map .bl := by
  induction bs with
  | nil => intro vs h; unfold List.map Reps at h; exact h
  | cons b bs ih =>
    intro vs h
    rw [List.map_cons] at h
    unfold Reps at h
    obtain ⟨v, us, rfl, r1, r2⟩ := h
    unfold Rep at r1
    rw [r1, ih r2]; rfl
section
variable {X : Cx} {F0 H0 : Hp} {o e : Expr} {apos cpos : Pos} {ta tb : TE2}
theorem mt_index : MtR X "list.index" (fun x vs H Q => ∃ (p : Addr) (bs : List Bool) (j : Nat), x = .ref p ∧ vs = [.bl true] ∧ SqL X.K H p (bs.map .bl) ∧ bs[j]? = some true ∧ (∀ m, m < j → bs[m]? = some false) ∧ bs.length < 1000 ∧ Q (.int j) H) := by
  rintro pins s σ H x xs v us Q I rx rs ⟨p, bs, j, e1, e2, hq, hj, hm, hl, q⟩
  subst e1 e2
  cases rx
  obtain ⟨u, rfl, ru⟩ := rs.one
  cases ru
  obtain ⟨its, rv, ⟨o, n, ho, hc, hd, hs⟩, _⟩ := I.list hq
  obtain rfl := vals_bls rv
  obtain ⟨cls, dict, data, slots⟩ := o
  cases hc; cases hd; cases hs
  have hjl : j < bs.length := (List.getElem?_eq_some_iff.mp hj).1
  refine call_meets PySem.F.slot_list_index ⟨_, ho, rfl⟩ PySem.F.entry_list_index (PySem.F.args_list_index_2 _ _) (PySem.SeqAt.list_indexAt p (bs.map Value.bool).toArray n none slots (.bool true) (fun y => y == .bool true) j (by simpa using hjl) (by omega) ?_ ?_) ⟨ho, fun y hy => ?_, ?_⟩
  · have : (bs.map Value.bool).toArray[j]? = some (.bool true) := by simp [hj]
    rw [Array.getElem?_eq_getElem (by simpa using hjl)] at this
    simp only [Option.some.injEq] at this
    rw [this]; rfl
  · intro m h1 h2
    have : (bs.map Value.bool).toArray[m]? = some (.bool false) := by simp [hm m h2]
    rw [Array.getElem?_eq_getElem h1] at this
    simp only [Option.some.injEq] at this
    rw [this]; rfl
  · have : y ∈ bs.map Value.bool := by simpa using hy
    obtain ⟨b, _, rfl⟩ := List.mem_map.mp this
    have e : (Value.bool b == .bool true) = (b == true) := by cases b <;> rfl
    rw [e]
    exact PySem.SeqAt.EqAt.bool_bool b true
  · exact ⟨.int j, H, I.tok _, ⟨_, rfl⟩, q⟩
theorem qe_index (ha : QE X F0 H0 o ta) (hb : QE X F0 H0 e tb) (hbase : attributeBase o "index" X.env (eval o X.env) = eval o X.env := by rfl)
    (hfew : ((backTo cpos (starEach [e] X.env)).all (fun x => !x.1) && (backToKw cpos (keywordEach [] X.env)).all (fun x => x.1.isSome)
      && decide ([e].length + ([] : List Keyword).length + (if ([] : List Keyword).isEmpty then 0 else 1) < 30)) = true := by rfl)
    (hline : (apos.endLine == cpos.line) = true := by rfl) (hs : starEach [e] X.env = (false, eval e X.env) :: starEach [] X.env := by rfl) :
    QE X F0 H0 (.Call (.Attribute o "index" apos) [e] [] cpos) (cIdx ta tb) := fun z E cx =>
  peC (pe_bm (X := X.wsh z) (T := "list") (id := "list.index") PySem.F.plainAttrs_list PySem.F.slot_list_index PySem.F.type_list_index mt_index (ha z E cx) (pa_cons (hb z E cx) pa_nil hs) hbase hfew hline hs rfl) fun σ H Q hq5 => by obtain ⟨F, Γ, P, R, h, k⟩ := hq5; exact ⟨F, Γ, _, R, h, fun d Γ1 F1 H1 v R1 s1 r1 h1 => by
    cases d with
    | lst xs =>
      unfold Rep at r1
      obtain ⟨a, vs, rfl, hq, rs⟩ := r1
      refine ⟨.inl ⟨rfl, vs, R1.g.seq hq⟩, F1, Γ1, _, R1, h1, fun y Γ2 F2 H2 w R2 s2 r2 h2 => ?_⟩
      unfold u_index at h2
      split at h2
      · obtain ⟨bs, j, rfl, hj, hm, hl, hp⟩ := h2
        obtain rfl := reps_bls rs
        unfold Rep at r2
        subst r2
        exact ⟨a, bs, j, rfl, rfl, R2.g.seq (s2.seq hq), hj, hm, hl, k _ Γ2 F2 H2 _ R2 (s1.trans s2) (by unfold Rep; rfl) hp⟩
      · exact h2.elim
    | _ => exact False.elim h1⟩
end
section
variable {X : Cx} {F0 H0 : Hp} {e : Expr} {es : List Expr} {pos p np : Pos} {x y : Str} {ps : List Str} {k i : Nat} {sp : SpM} {t : TF2}
theorem qe_callO (G : Fn2M X.prog X.w X.K X.mg X.base x k ps sp) (hr : Room k X.A) (hg : Gl X x) (hN : X.N[i]? = some y) (hv : Vis X.env.scope y) (ha : QA X F0 H0 (e :: es) t) (hdb : (x == ("__debug__" : Str)) = false := by decide)
    (hd : (y == ("__debug__" : Str)) = false := by decide) (hcd : (y == ("__classdict__" : Str)) = false := by decide)
    (he0 : starEach (.Name y np :: e :: es) X.env = (false, eval (.Name y np) X.env) :: starEach (e :: es) X.env := by rfl) (hpl : (backTo pos (starEach (e :: es) X.env)).any (·.1) = false := by rfl) :
    QE X F0 H0 (.Call (.Name x p) (.Name y np :: e :: es) [] pos) (cCallO i sp t) := by
  obtain ⟨f, fd, Fn, hm, hk, hb⟩ := G.ex
  rintro z E cx pins s σ H Q I ⟨F, Γ, P, R, ⟨⟨a, bs, tt, e0⟩, h⟩, kk⟩
  obtain ⟨o, e1, v, rfl, nd, hn, rt⟩ := R.sl i _ e0
  have hv' := rt.root
  subst hv'
  refine wpAny_Call_Name_kw (ld_glob (X := X.wsh z) I hg hm ?_ hdb)
  have pa : PA (X.wsh z) (.Name y np :: e :: es) (tCons (tVar i) (upA X.K F0 H0 t E)) := pa_cons (pe_var (X := X.wsh z) (i := i) hN hv hd hcd) (ha z E cx) he0
  refine PySem.W.callWith_K (h₀ := X.base) I.ok.mod.kin hk (thn (pa pos pins s σ H (fun vs H1 => ∃ F1 Γ1 ds ws, vs = .ref a :: ws ∧ SR X.K F0 H0 F1 H1 σ Γ1 ∧ Same F F1 ∧ Reps X.K F1 ds ws ∧ ∃ a bs tt, Γ1[i]? = some (.tr (a :: bs) tt) ∧ sp tt ds (fun t' d => ∀ cs, P d (Γ1.set i (.tr (a :: cs) t'))) fun t' Cx => ∀ cs, E (Γ1.set i (.tr (a :: cs) t')) Cx) I ⟨_, e1, F, Γ, _, R, h, fun ds Γ1 F1 H1 vs R1 s1 r1 h1 => ⟨F1, Γ1, ds, vs, rfl, R1, s1, r1, h1⟩⟩) fun us s1 hqq => ?_) he0 hpl
  obtain ⟨vs, H1, I1, r, F1, Γ1, ds, ws, ev, R1, sF, rs, a', bs', tt', e2, q⟩ := hqq
  refine ⟨I1.kIn, ?_⟩
  subst ev
  cases r with
  | cons r0 rr =>
    cases r0
    have ha' : a' = a := by
      obtain ⟨o, e3, v, rfl, _, _, rt⟩ := R1.sl i _ e2
      rw [e1] at e3; cases e3
      have := rt.root
      cases this; rfl
    subst ha'
    exact run2M Fn hr hb cx I1 R1 rr rs e2 q fun d Γ' F' H' v R' s' rv hp => kk d Γ' F' H' v R' (sF.trans s') rv hp
end
end L3

namespace L3
open PySem PySem.Spec PyProof.Rows L2

section
variable {prog : Program} {w : World} {A : Around} {E : Value → Shared → Prop} {s : Shared}
theorem draw_walk {I : Addr} {fp wr : List Addr} {items : Array Value} {St : Nat → Heap → Prop} (W : Walks prog w A I fp wr items.size (fun i v => items[i]? = some v) St) : ∀ (n i : Nat) (s : Shared) (Q : List Value → Shared → Prop), St i s.heap → i + n ≤ items.size →
    (∀ h' tk, St (i + n) h' → (∀ b o, b ∉ wr → s.heap.get? b = some o → h'.get? b = some o) → Q ((items.toList.drop i).take n) { s with heap := h', toks := tk }) → wpAny (model prog w) A (draw (.ref I) n) Q E s
  | 0, i, s, Q, st, _, hQ => by
    show wpAny _ _ (pure []) Q E s
    exact wpAny_pure (by simpa using hQ s.heap s.toks st fun _ _ _ e => e)
  | n + 1, i, s, Q, st, hle, hQ => by
    have hlt : i < items.size := by omega
    show wpAny _ _ (pyNext (.ref I) >>= _) Q E s
    refine wpAny_bind (W.item i s _ _ hlt st fun v h1 tk hv st1 k1 => ?_)
    rw [Array.getElem?_eq_getElem hlt] at hv; cases hv
    refine wpAny_bind (wpAny_holding (draw_walk W n (i + 1) _ _ st1 (by omega) fun h2 tk2 st2 k2 => wpAny_pure ?_))
    have hd : items.toList.drop i = items[i] :: items.toList.drop (i + 1) := by simp [List.drop_eq_getElem_cons, hlt]
    have := hQ h2 tk2 (by rw [show i + (n + 1) = i + 1 + n by omega]; exact st2) fun b o hb e => k2 b o hb (k1 b o hb e)
    rw [hd, List.take_succ_cons] at this
    exact this
theorem assign_list {env : Env} {elts : List Expr} {x1} {pos : Pos} {t : Addr} {items : Array Value} {Q : Unit → Shared → Prop} (hh : A.handled = none) (ht : s.heap.IsList t items)
    (hn : (assignEach elts env).length = items.size) (hstar : (assignEach elts env).findIdx? (·.1) = none)
    (h : ∀ h' tk, (∀ b o, b ≠ s.heap.objs.size → s.heap.get? b = some o → h'.get? b = some o) → wpAny (model prog w) A (assignInOrder ((assignEach elts env).map (·.2)) items.toList) Q E { s with heap := h', toks := tk }) :
    wpAny (model prog w) A (assign (.Tuple elts x1 pos) env (.ref t)) Q E s := by
  have hlt : t ≠ s.heap.objs.size := by obtain ⟨o, ho, _⟩ := ht; exact Nat.ne_of_lt (Heap.lt_size ho)
  rw [arm_assign_Tuple]
  refine wpAny_bind (wpAny_standAt ?_)
  unfold unpack
  rw [hn, hstar]
  refine wpAny_bind (wpAny_holding ?_)
  unfold unpackItems
  refine wpAny_bind ?_
  unfold notIterableAtAll
  refine wpAny_bind (wpAny_specialOf ht.typeIs PySem.F.slot_list_iter.lookup ?_)
  refine wpAny_pure ?_
  simp only [Bool.false_eq_true, if_false]
  refine wpAny_bind (wpAny_holding (wpAny_pyIter_list ht ?_))
  have W : Walks prog w A s.heap.objs.size [s.heap.objs.size, t] [s.heap.objs.size] items.size (fun i v => items[i]? = some v) _ := Walks.list hh s.heap.objs.size t hlt items
  refine wpAny_bind (wpAny_holding (draw_walk W items.size 0 _ _ ⟨⟨_, Heap.get?_push_size _ rfl, rfl, rfl⟩, ht.push _⟩ (by omega) fun h1 tk1 st1 k1 => ?_))
  have hall : List.take items.size (List.drop 0 items.toList) = items.toList := by
    rw [List.drop_zero]; exact List.take_of_length_le (by simp)
  rw [hall]
  rw [if_neg (by simp)]
  rw [Nat.zero_add] at st1
  refine wpAny_bind (wpAny_holding (W.done _ _ _ st1 fun h2 tk2 k2 => ?_))
  simp only [Option.isSome_none, Bool.false_eq_true, if_false]
  refine wpAny_pure (h h2 tk2 fun b o hb e => k2 b o (by simpa using hb) (k1 b o (by simpa using hb) (Heap.get?_push_of_some _ e)))
end
def gLstU (K : PySem.W.Frag) (n : Nat) (t : TGs) : TG := fun v σ H Q => ∃ a xs, v = .ref a ∧ SqL K H a xs ∧ xs.length = n ∧ t xs σ H Q
theorem pg_lstU {X : Cx} {es : List Expr} {k : Nat} {t : TGs} {n : Nat} {pos : Pos} (hc : X.calm = true) (h : PGs X es t)
    (hn : (assignEach es X.env).length = n := by rfl) (hst : (assignEach es X.env).findIdx? (·.1) = none := by rfl) : PG X (.Tuple es k pos) (gLstU X.K n t) := by
  intro pins s σ H v u Q I r hw
  obtain ⟨a, xs, e1, hq, hl, hw⟩ := hw
  subst e1
  cases r
  obtain ⟨its, rv, ht, hz⟩ := I.list hq
  refine assign_list (I.ok.hd hc) ht.isList (by simp [hn, ← hl, rv.length]) hst fun h' tk hx => ?_
  have I1 : Inv X pins σ H { s with heap := h', toks := tk } := I.kept (t' := tk) fun b o e => hx b o (Nat.ne_of_lt (Heap.lt_size e)) e
  exact h pins _ σ H xs _ Q I1 (by simpa using rv) hw
def hLst (n : Nat) (gs : TGs2) : TG2 := fun d Γ Q E => match d with | .lst ds => ds.length = n ∧ gs ds Γ Q E | _ => False
section
variable {X : Cx} {F0 H0 : Hp} {es : List Expr} {gs : TGs2} {pos : Pos}
theorem qg_lst {k n : Nat} (hc : X.calm = true) (h : QGs X F0 H0 es gs) (hn : (assignEach es X.env).length = n := by rfl) (hst : (assignEach es X.env).findIdx? (·.1) = none := by rfl) : QG X F0 H0 (.Tuple es k pos) (hLst n gs) := fun z E cx =>
  pgC (pg_lstU (X := X.wsh z) (n := n) hc (h z E cx) hn hst) fun v σ H Q hq1 => by
    obtain ⟨F, Γ, P, d, R, r, h, k⟩ := hq1
    cases d with
    | lst ds =>
      unfold Rep at r
      obtain ⟨a, vs, rfl, hq, rs⟩ := r
      exact ⟨a, vs, rfl, R.g.seq hq, by rw [← reps_len rs]; exact h.1, F, Γ, P, ds, R, rs, h.2, k⟩
    | _ => exact False.elim h
end
def catS : List Str → Str
  | [] => Str.empty
  | x :: xs => x ++ catS xs
theorem app_empty (x : Str) : x ++ Str.empty = x := by cases x; show Str.append _ _ = _; unfold Str.append Str.empty; simp
theorem join_cat : ∀ xs : List Str, Str.join Str.empty xs = catS xs
  | [] => rfl
  | [x] => (app_empty x).symm
  | x :: y :: r => by
    show x ++ Str.empty ++ Str.join Str.empty (y :: r) = x ++ catS (y :: r)
    rw [join_cat (y :: r), app_empty]
theorem vals_toks : ∀ {xs : List Str} {its : List Value}, Vals (xs.map V.str) its → ∃ l : List (Str × Tok), its = strValues l ∧ l.map (·.1) = xs
  | [], _, .nil => ⟨[], rfl, rfl⟩
  | x :: xs, _, .cons h r => by
    obtain ⟨t, rfl⟩ := h
    obtain ⟨l, rfl, e⟩ := vals_toks r
    exact ⟨(x, t) :: l, rfl, by simp [e]⟩
def sumL : List Str → Nat
  | [] => 0
  | x :: xs => x.length + sumL xs
theorem catS_len : ∀ xs : List Str, (catS xs).length = sumL xs
  | [] => rfl
  | x :: xs => by
    show (Str.append x (catS xs)).length = _
    unfold Str.append Str.length
    rw [Array.size_append]
    have := catS_len xs
    unfold Str.length at this
    rw [this]; rfl
theorem fold_len : ∀ (xs : List Str) (a : Nat), xs.foldl (fun acc x => acc + x.length + Str.empty.length) a = a + sumL xs
  | [], a => rfl
  | x :: xs, a => by
    rw [List.foldl_cons, fold_len xs]
    show a + x.length + 0 + sumL xs = a + (x.length + sumL xs)
    omega
def cJoin (te : TE2) : TE2 := fun Γ P E => te Γ (fun d Γ1 => match d with | .lst ds => ∃ xs : List Str, ds = xs.map .str ∧ sumL xs < 1000 ∧ P (.str (catS xs)) Γ1 | _ => False) E
section
variable {X : Cx} {F0 H0 : Hp} {e : Expr} {apos cpos spos : Pos} {j} {te : TE2}
theorem mt_join : MtR X "str.join" (fun x vs H Q => ∃ (p : Addr) (xs : List Str), x = .str Str.empty ∧ vs = [.ref p] ∧ SqL X.K H p (xs.map .str) ∧ sumL xs < 1000 ∧ Q (.str (catS xs)) H) := by
  rintro pins s σ H x xs v us Q I rx rs ⟨p, ts, e1, e2, hq, hl, q⟩
  subst e1 e2
  obtain ⟨t, rfl⟩ := rx
  obtain ⟨u, rfl, ru⟩ := rs.one
  cases ru
  obtain ⟨its, rv, pl, _⟩ := I.list hq
  obtain ⟨l, rfl, el⟩ := vals_toks rv
  refine call_meets PySem.F.slot_str_join (typeIs_str _ _ _) PySem.F.entry_str_join (PySem.F.args_str_join_2 _ _) (meets_str_join_list Str.empty t p l ?_) ⟨pl.isList, ?_⟩
  · rw [el]
    have : ts.toArray.foldl (fun acc x => acc + x.length + Str.empty.length) 0 = sumL ts := by
      rw [List.foldl_toArray, fold_len]; omega
    rw [this]
    unfold Builtin.Str.tooLong
    have : (1000 : Nat) ≤ sizeLine := by decide
    simp
    omega
  · have hcat : StrLaws.glued_eq_join Str.empty ts = StrLaws.glued_eq_join Str.empty ts := rfl
    match l, el with
    | [], el =>
      cases el
      exact ⟨by show (0 : Nat) ≤ _; omega, .str (catS []), H, I.tok _, ⟨_, rfl⟩, q⟩
    | [(y, t')], el =>
      cases el
      refine ⟨.str (catS [y]), H, I, ⟨t', ?_⟩, q⟩
      show Value.str y t' = .str (y ++ Str.empty) t'
      rw [app_empty]
    | a :: b :: r, el =>
      have e : Builtin.Str.glued Str.empty ((a :: b :: r).map (·.1)) = catS ts := by rw [StrLaws.glued_eq_join, join_cat, el]
      show (Builtin.Str.glued Str.empty ((a :: b :: r).map (·.1))).length ≤ sizeLine ∧ _
      rw [e]
      refine ⟨?_, .str (catS ts), H, I.tok _, ⟨_, rfl⟩, q⟩
      rw [catS_len]
      have : (1000 : Nat) ≤ sizeLine := by decide
      omega
theorem qe_join (he : QE X F0 H0 e te) (hemp : Str.ofString "" = Str.empty := by decide +kernel) (hbase : attributeBase (.Constant (.str (Str.ofString "")) j spos) "join" X.env (eval (.Constant (.str (Str.ofString "")) j spos) X.env) = eval (.Constant (.str (Str.ofString "")) j spos) X.env := by rfl)
    (hfew : ((backTo cpos (starEach [e] X.env)).all (fun x => !x.1) && (backToKw cpos (keywordEach [] X.env)).all (fun x => x.1.isSome)
      && decide ([e].length + ([] : List Keyword).length + (if ([] : List Keyword).isEmpty then 0 else 1) < 30)) = true := by rfl)
    (hline : (apos.endLine == cpos.line) = true := by rfl) (hs : starEach [e] X.env = (false, eval e X.env) :: starEach [] X.env := by rfl) :
    QE X F0 H0 (.Call (.Attribute (.Constant (.str (Str.ofString "")) j spos) "join" apos) [e] [] cpos) (cJoin te) := fun z E cx =>
  peC (pe_bm (X := X.wsh z) (T := "str") (id := "str.join") PySem.F.plainAttrs_str PySem.F.slot_str_join PySem.F.type_str_join mt_join (pe_str (X := X.wsh z)) (pa_cons (he z E cx) pa_nil hs) hbase hfew hline hs rfl) fun σ H Q hq2 => by
    obtain ⟨F, Γ, P, R, h, k⟩ := hq2
    rw [hemp]
    refine ⟨rfl, F, Γ, _, R, h, fun d Γ1 F1 H1 v R1 s1 r1 h1 => ?_⟩
    split at h1
    · unfold Rep at r1
      obtain ⟨a, vs, rfl, hq, rs⟩ := r1
      obtain ⟨xs, rfl, hl, hp⟩ := h1
      have : vs = xs.map .str := strs_vals rs (by
        clear hl hp rs
        induction xs with
        | nil => rfl
        | cons x xs ih => rw [List.map_cons]; unfold strsD; rw [ih]; rfl)
      subst this
      exact ⟨a, xs, rfl, rfl, R1.g.seq hq, hl, k _ Γ1 F1 H1 _ R1 s1 (by unfold Rep; rfl) hp⟩
    · exact h1.elim
end
end L3

namespace L3
open PySem PySem.Spec PyProof.Rows L2

theorem entry_unchain : entryFor table "proto.unchain" = some Builtin.«proto.unchain» := entryFor_of_fast (by kernel_rfl)
section
variable {prog : Program} {w : World} {A : Around} {E : Value → Shared → Prop} {s : Shared}
theorem raise_behind {α : Type} {e a : Addr} {o oe : Obj} {vs ws : Array Value} {Q : α → Shared → Prop} (hh : A.handled = some (.ref a)) (ho : s.heap.get? a = some o) (hd : o.data = .fields vs) (h2 : vs[2]? = some Value.none) (ne : a ≠ e) (he : s.heap.get? e = some oe) (hde : oe.data = .fields ws) (hz : 2 < ws.size)
    (h : E (.ref e) { s with heap := s.heap.update e (Obj.mapFields (·.setIfInBounds 2 (.ref a))) }) : wpAny (model prog w) A (raiseNew (α := α) (.ref e)) Q E s := by
  simp only [raiseNew]
  refine wpAny_bind (wpAny_handled ?_)
  rw [hh]
  have hne : (Value.ref a != Value.ref e) = true := by simp [ne]
  simp only [hne, if_true]
  refine wpAny_bind (wpAny_holding (wpAny_runValue (codeAny_builtin entry_unchain ?_)))
  unfold Builtin.«proto.unchain»
  refine wpAny_bind (wpAny_field ho hd h2 ?_)
  rw [if_pos (by decide)]
  refine wpAny_pure ?_
  simp only [updateField]
  refine wpAny_bind (wpAny_bind (wpAny_load he ?_))
  rw [hde]
  show wpAny _ _ (if 2 < ws.size then _ else _) _ _ _
  rw [if_pos hz]
  exact wpAny_update he (wpAny_throw h)
theorem next_list_endH {it l a : Addr} {o : Obj} {vs : Array Value} {i : Nat} {items} {Q : Option Value → Shared → Prop} (hh : A.handled = some (.ref a)) (ho : s.heap.get? a = some o) (hdo : o.data = .fields vs) (h2 : vs[2]? = some Value.none) (ne : a ≠ it)
    (hit : s.heap.IsListIter it l i) (hl : s.heap.IsList l items) (hx : items[i]? = none)
    (hQ : ∀ h', Heap.ExtBut it s.heap h' → Q none { s with heap := h' }) : wpAny (model prog w) A (pyNext (.ref it)) Q E s := by
  obtain ⟨oi, hoi, hc, hd⟩ := id hit
  obtain ⟨ol, hol, _, nl, hdl⟩ := hl
  unfold pyNext
  refine wpAny_bind (wpAny_attempt (wpAny_callSpecial?_slot (name := Str.ofString "__next__") hit.typeIs slot_listiter_next
    (wpAny_call_entry slot_listiter_next hit.typeIs entry_listiter_next ?_ (args_listiter_next _))))
  show wpAny _ _ (field (.ref it) 0 >>= _) _ _ s
  refine wpAny_bind (wpAny_field hoi hd (x := .ref l) rfl ?_)
  rw [if_neg (show ¬ ((Value.ref l == Value.none) = true) from Bool.false_ne_true)]
  refine wpAny_bind (wpAny_field hoi hd (x := .int i 0) rfl ?_)
  refine wpAny_bind (wpAny_seqItems hol hdl ?_)
  simp only [Int.toNat_natCast, hx]
  refine wpAny_bind (wpAny_rule (wpAny_bind (wpAny_setField hoi hd (by simp) ?_)))
  show wpAny _ _ (newExc (.type "StopIteration") [] >>= _) _ _ _
  refine wpAny_bind ?_
  simp only [newExc, newTuple]
  refine wpAny_bind (wpAny_newObj_type ?_ (by size_fits))
  refine wpAny_bind (m := firstArgMember _ _) (wpAny_of_eq (a := Value.none) (by first | rfl | (simp only [firstArgMember]; rfl)) ?_)
  refine wpAny_newObj_type ?_ (by size_fits)
  have h0 : (s.heap.update it (Obj.mapFields (·.setIfInBounds 0 Value.none))).get? a = some o := (Heap.get?_update_other _ _ (Ne.symm ne)).trans ho
  refine raise_behind (show A.in1.handled = some (.ref a) from hh) (Heap.get?_push_of_some _ (Heap.get?_push_of_some _ h0)) hdo h2 (Nat.ne_of_lt (by rw [Heap.size_push]; exact Nat.lt_succ_of_lt (Heap.lt_size h0))) (Heap.get?_push_size _ rfl) rfl (by simp; omega) ?_
  refine wpAny_bind (wpAny_isInstance (T := "StopIteration") (b := true) ⟨_, Heap.get?_update_self _ (Heap.get?_push_size _ rfl) (Obj.isFreed_of_fields (Obj.data_mapFields rfl _)), Obj.cls_mapFields _ _⟩ isSubtype_stop ?_)
  refine wpAny_pure (hQ _ fun b q hb e => ?_)
  have e0 : (s.heap.update it (Obj.mapFields (·.setIfInBounds 0 Value.none))).get? b = some q := (Heap.get?_update_other _ _ (Ne.symm hb)).trans e
  have e1 := Heap.get?_push_of_some { cls := .type "tuple", data := .seq ([] : List Value).toArray } e0
  rw [Heap.get?_update_other _ _ (Nat.ne_of_gt (Heap.lt_size e1))]
  exact Heap.get?_push_of_some _ e1
end
def cmH (X : Cx) : Prop := ∃ a o u vs, X.A.handled = some (.ref a) ∧ X.H₀ a = some (.frz o u) ∧ o.data = .fields vs ∧ vs[2]? = some Value.none
theorem turn_listH {P : Program} {w : World} {K : PySem.W.Frag} {tg : Expr} (a it : Addr) : TurnG P w K tg (Itl K a) [it] it (fun i h => h.IsListIter it a i) cmH where
  mem := by simp
  obj := fun i h st b hb => by
    have e : b = it := by simpa using hb
    subst e
    obtain ⟨o, e, c, d⟩ := st
    exact ⟨o, e, fun v z => by rw [d] at z; cases z⟩
  keep := fun i h h' st k => st.at fun o e => k it (by simp) o e
  item := by
    intro X hP hw hK hc i pins s σ H E I hf st hg
    subst hP hw hK
    obtain ⟨xs, x, hq, hx⟩ := hg
    obtain ⟨its, rv, p, hz⟩ := I.list hq
    obtain ⟨u, hu, ru⟩ := rv.get hx
    obtain ⟨f0, f1, f2, f3, f4, f5⟩ := hf it (by simp)
    refine wpAny_pyNext_list_item st p.isList (x := u) (by simpa using hu) fun h' st' sb => ?_
    have I1 : Inv X pins σ H { s with heap := h' } := I.turned (t' := s.toks) (fun b o hb e => (sb.2 b hb).trans e) f0 f1 f3 f4 f5
    obtain ⟨o, e, c, d⟩ := id st'
    exact ⟨u, rfl, go_of (s := { s with heap := h' }) e c d (by decide) ⟨x, H, I1, ru, ⟨rfl, fun ys hy => by rw [I.list_inj hy hq]; exact hx⟩, st', fun b hb => (hf b hb).1⟩⟩
  done := by
    intro X hP hw hK hc i pins s σ H E I hf st hg
    subst hP hw hK
    obtain ⟨xs, hq, hx⟩ := hg
    obtain ⟨its, rv, p, hz⟩ := I.list hq
    obtain ⟨f0, f1, f2, f3, f4, f5⟩ := hf it (by simp)
    obtain ⟨ea, o, u, vs, c1, c2, c3, c4⟩ := hc
    have hl := rv.length
    have eH := I.base.frzs _ _ _ c2
    exact next_list_endH c1 (I.hok _ _ eH).1 c3 c4 (ne_of_none eH f0) st p.isList (by simp; omega) fun h' eb => ⟨rfl, I.turned (t' := s.toks) (fun b o hb e => eb b o hb e) f0 f1 f3 f4 f5⟩
  self := fun _ _ _ _ _ st h => wpAny_pyIter_listiter st h
def iLh (te : TE2) : TF2 := fun Γ P E => te Γ (fun d Γ1 => match d with | .lst ds => P ds Γ1 | _ => False) E
section
variable {X : Cx} {F0 H0 : Hp} {e tg : Expr} {te : TE2} {a : Addr}
theorem qi_seqH (hA : HandAt F0 a) (h : QE (X.hand a) F0 H0 e te) : QIg (X.hand a) F0 H0 tg e (iLh te) := fun z E cx => by
  rintro pins s σ H R I ⟨F, Γ, P, S, q, k⟩
  refine thn (h z E cx pins s σ H (fun x H1 => ∃ b xs, x = .ref b ∧ SqL X.K H1 b xs ∧ HandAt H1 a ∧ (xs.length ≤ sizeLine → R (Itl X.K b) H1)) I ⟨F, Γ, _, S, q, fun d Γ1 F1 H1 v R1 s1 r1 h1 => ?_⟩) fun v s1 ⟨x, H1, I1, r1, b, xs, e1, hq, hA1, q1⟩ => ?_
  · cases d with
    | lst ds =>
      unfold Rep at r1
      obtain ⟨b, vs, rfl, hq, rs⟩ := r1
      obtain ⟨o, C, ho⟩ := hA
      refine ⟨b, vs, rfl, R1.g.seq hq, ⟨o, C, R1.g _ _ (R1.gr.f _ _ ho)⟩, fun hz => k ds Γ1 F1 H1 _ noH R1 s1 noH_same ?_ h1⟩
      refine ⟨by rw [reps_len rs]; exact hz, fun i H2 F2 s2 s3 s4 => ⟨fun e => ⟨vs, s3.seq (s2.seq hq), by rw [e, reps_len rs]; exact Nat.le_refl _⟩, fun d hd => ?_⟩⟩
      obtain ⟨v, hv, rv⟩ := reps_get rs hd
      refine ⟨⟨vs, v, s3.seq (s2.seq hq), hv⟩, fun x H' y => ?_⟩
      obtain ⟨rfl, y⟩ := y
      have := y vs (s3.seq (s2.seq hq))
      rw [hv] at this; cases this
      exact ⟨F2, Gr.refl s3, rv.up s2⟩
    | _ => exact False.elim h1
  · subst e1
    cases r1
    obtain ⟨its, rv, p, hz⟩ := I1.list hq
    obtain ⟨o, C, ho⟩ := hA1
    obtain ⟨g1, ⟨o', vs, g2, g3, g4, g5⟩, _⟩ := I1.hok a _ ho
    rw [g1] at g2; cases g2
    refine wpAny_pyIter_list p.isList ?_
    refine ⟨s1.heap.objs.size, [s1.heap.objs.size], _, _, H1, cmH, rfl, I1.kept (t' := s1.toks) fun b o e => Heap.get?_push_of_some _ e, turn_listH b _, ⟨_, Heap.get?_push_size _ rfl, rfl, rfl⟩, fun c hb => ?_, q1 hz, fun Y eA _ kf => ⟨a, o, _, vs, ?_, kf _ _ _ ho, g4, g5⟩⟩
    · obtain rfl : c = s1.heap.objs.size := by simpa using hb
      exact I1.fpOk (Nat.le_refl _) (I1.hok.fresh (Nat.le_refl _))
    · rw [eA]; rfl
end
def cSetO (i : Nat) (t : TN2) : TS2 := fun D Γ E => t Γ (fun tr Γ1 => ((∀ d, tr ≠ .leaf d) ∧ ∀ k, tr ≠ .kt k) ∧ ∀ a bs, D.nx (Γ1.set i (.tr (a :: bs) tr))) E
theorem TR.cons {K : PySem.W.Frag} {F H : Hp} : ∀ {t : T} {v : V} {as : List Addr}, TR K F H t v as → ((∀ d, t ≠ .leaf d) ∧ ∀ k, t ≠ .kt k) → ∃ a bs, as = a :: bs
  | .leaf d, _, _, _, n => absurd rfl (n.1 d)
  | .kt d, _, _, _, n => absurd rfl (n.2 d)
  | .lst _, _, _, h, _ => by unfold TR at h; obtain ⟨b, _, _, _, e, _⟩ := h; exact ⟨_, _, e⟩
  | .dic _ _, _, _, h, _ => by unfold TR at h; obtain ⟨b, _, _, _, e, _⟩ := h; exact ⟨_, _, e⟩
  | .dit _ _, _, _, h, _ => by unfold TR at h; obtain ⟨b, _, _, _, e, _⟩ := h; exact ⟨_, _, e⟩
  | .ob _ _ _, _, _, h, _ => by unfold TR at h; obtain ⟨b, _, _, _, _, e, _⟩ := h; exact ⟨_, _, e⟩
theorem qs_setO {X : Cx} {F0 H0 : Hp} {e : Expr} {pos : Pos} {tn : TN2} {i : Nat} {x : Str} {pos' : Pos} (hN : X.N.Nodup) (hi : X.N[i]? = some x) (hx : Loc X.env.scope x) (he : QN X F0 H0 e tn) (hs : swapsWith e (some (.Name x pos')) pos.line X.env = pure false := by rfl)
    (hf : X.fn x = true ∨ X.env.scope.names.lookup x = some .local := by first | exact .inl rfl | exact .inr rfl) : QS X F0 H0 (.Assign [.Name x pos'] e pos) (cSetO i tn) := fun z E cx =>
  psC (ps_set (X := X.wsh z) (i := i) hN hi hx (he z E cx) hs hf) fun D σ H hq2 => by obtain ⟨F, Γ, D2, R, h, k⟩ := hq2; exact ⟨F, Γ, _, R, h, fun t Γ1 F1 H1 v as R1 s1 nd hn r1 h1 => by
    obtain ⟨a, bs, rfl⟩ := r1.cons h1.1
    exact k.nx _ _ _ _ (R1.put i (s := .tr (a :: bs) t) ⟨v, rfl, nd, fun b hb => ⟨(hn b hb).1, (hn b hb).2.1⟩, r1⟩ fun a ha => (hn a ha).2.2) s1 (h1.2 a bs)⟩
end L3

namespace HM
theorem fmod_natAbs_lt {a b : Int} (h : b ≠ 0) : (a.fmod b).natAbs < b.natAbs := by
  rw [Int.fmod_eq_emod]
  have h1 := Int.emod_nonneg a h
  have h2 := Int.emod_lt a h
  split
  · omega
  · rename_i q
    have q1 : b < 0 := by omega
    have q2 : a % b ≠ 0 := fun z => q (.inr (Int.dvd_of_emod_eq_zero z))
    omega

def dv (t b : Int) : Int := if b < 0 then -(Int.gcd t b : Int) else Int.gcd t b
def fr (t b : Int) : Int × Int := (t.fdiv (dv t b), b.fdiv (dv t b))

end HM

namespace L3
open PySem L2 HM
def qD (q : Rat) : D := .tup [.int q.num, .int q.den]
def Sz (n : Nat) (q : Rat) : Prop := bln q.num ≤ n ∧ bln (q.den : Int) ≤ n
end L3

namespace L3
open PySem L2 HM
def sp_divisor (_ : Cls) : Sp2 := fun ds P _ => ∃ i j, ds = [.int i, .int j] ∧ P (.int (Int.gcd i j))
def sp_fraction (c : Cls) : Sp2 := fun ds P E => ∃ i j : Int, ds = [.int i, .int j] ∧ bln i ≤ 9000 ∧ bln j ≤ 9000 ∧ if j = 0 then E (.ref c.NoFraction) else P (qD ((i : Rat) / (j : Rat)))
def sp_plus (c : Cls) : Sp2 := fun ds P _ => ∃ a b : Rat, ds = [qD a, qD b] ∧ Sz 4000 a ∧ Sz 4000 b ∧ P (qD (a + b))
def sp_minus (c : Cls) : Sp2 := fun ds P _ => ∃ a b : Rat, ds = [qD a, qD b] ∧ Sz 4000 a ∧ Sz 4000 b ∧ P (qD (a - b))
def sp_times (c : Cls) : Sp2 := fun ds P _ => ∃ a b : Rat, ds = [qD a, qD b] ∧ Sz 4000 a ∧ Sz 4000 b ∧ P (qD (a * b))
def sp_over (c : Cls) : Sp2 := fun ds P E => ∃ a b : Rat, ds = [qD a, qD b] ∧ Sz 4000 a ∧ Sz 4000 b ∧ if b = 0 then E (.ref c.NoFraction) else P (qD (a / b))
def sp_under (c : Cls) : Sp2 := fun ds P _ => ∃ a b : Rat, ds = [qD a, qD b] ∧ Sz 4000 a ∧ Sz 4000 b ∧ P (.bl (decide (a < b)))

def cellV (ns : List Int) (k : Nat) : Int := if h : k < ns.length then ns[k] else
  let m : Int := if ns = [] then (k : Int) * 7919 + 5 else (ns.getD ((k * 7) % ns.length) 0 * 48271 + (k : Int) * 7919).fmod 2147483647
  (m * m).fmod 2147483629
def sp_law_cell (_ : Cls) : Sp2 := fun ds P _ => ∃ (ns : List Int) (k : Nat), ds = [.lst (ns.map .int), .int k] ∧ ns.length ≤ 63 ∧ k < 1000 ∧ P (.int (cellV ns k))
theorem l_law_cell {c : Cls} {ds P E} (h : sp_law_cell c ds P E) : ds.length = 2 := by obtain ⟨_, _, rfl, _⟩ := h; rfl

def lowB (c : Nat) : Bool := decide (97 ≤ c) && decide (c ≤ 122)
def nmS (x : Str) : Bool := decide (1 ≤ x.length) && (decide (x.length ≤ 8) && x.cps.toList.all lowB)
def nmD : D → Bool
  | .str x => nmS x
  | _ => false
def mkB (m : Int) : D → Bool
  | .int i => decide (0 ≤ i) && decide (i ≤ m)
  | _ => false
def tyOk (d : D) : Prop := (tyD d).isSome = true ∧ ∀ x, d = .str x → x.length ≤ sizeLine
def bkF : List Str := [("most" : Str), ("marks" : Str)]
def bkT (C : Addr) (m : Int) (ps : List P2) (vs : List Int) : T := .ob C bkF [.leaf (.int m), .dit (ps.map pkK) ((vs.map D.int).map .leaf)]
def bkD (C : Addr) (m : Int) (ps : List P2) (vs : List Int) : D := .obj C bkF [.int m, .dit (ps.map pkK) (vs.map D.int)]
def dropV (ps : List P2) (vs : List Int) (p : P2) : List Int := dropLX (ps.map pkK) vs (pkK p)
def dropQ (ps : List P2) (p : P2) : List P2 := ps.filter fun q => decide (q ≠ p)
def rowE (ps : List P2) (vs : List Int) (p : P2) : D := .tup [.str p.1, .str p.2, .int ((lookL (ps.map pkK) vs (pkK p)).getD 0)]
def sp_is_name (_ : Cls) : Sp2 := fun ds P _ => ∃ d, ds = [d] ∧ tyOk d ∧ P (.bl (nmD d))
def sp_is_mark (_ : Cls) : Sp2 := fun ds P _ => ∃ (d : D) (m : Int), ds = [d, .int m] ∧ tyOk d ∧ P (.bl (mkB m d))
def sp_Book (c : Cls) : SpM := fun t ds P _ => t = .ob c.Book [] [] ∧ ∃ m : Int, ds = [.int m] ∧ P (bkT c.Book m [] []) .non
def sp_Book_put (c : Cls) : SpM := fun t ds P E => ∃ (m : Int) (ps : List P2) (vs : List Int) (w h k : D), t = bkT c.Book m ps vs ∧ ds = [w, h, k] ∧ tyOk w ∧ tyOk h ∧ tyOk k ∧ ps.length = vs.length ∧ ps.length < 1000 ∧
  (if (nmD w && nmD h) = true then if mkB m k = true then ∀ (w' h' : Str) (k' : Int), w = .str w' → h = .str h' → k = .int k' → if (w', h') ∈ ps then E t (.ref c.Twice) else P (bkT c.Book m (ps ++ [(w', h')]) (vs ++ [k'])) .non
    else E t (.ref c.NoMark) else E t (.ref c.NoName))
def sp_Book_drop (c : Cls) : SpM := fun t ds P E => ∃ (m : Int) (ps : List P2) (vs : List Int) (w h : D), t = bkT c.Book m ps vs ∧ ds = [w, h] ∧ tyOk w ∧ tyOk h ∧ ps.length = vs.length ∧ ps.Nodup ∧
  (if (nmD w && nmD h) = true then ∀ w' h' : Str, w = .str w' → h = .str h' → if (w', h') ∈ ps then P (bkT c.Book m (dropQ ps (w', h')) (dropV ps vs (w', h'))) .non else E t (.ref c.Missing)
    else E t (.ref c.Missing))
def sp_Book_rows (c : Cls) : Sp2 := fun ds P _ => ∃ (m : Int) (ps : List P2) (vs : List Int), ds = [bkD c.Book m ps vs] ∧ ps.length = vs.length ∧ ps.length < 64 ∧ ∀ ms : List P2, ms.Perm ps → ms.Pairwise (fun a b => ltP a b = true) → P (.lst (ms.map (rowE ps vs)))
theorem l_is_name {c : Cls} {ds P E} (h : sp_is_name c ds P E) : ds.length = 1 := by obtain ⟨_, rfl, _⟩ := h; rfl
theorem l_is_mark {c : Cls} {ds P E} (h : sp_is_mark c ds P E) : ds.length = 2 := by obtain ⟨_, _, rfl, _⟩ := h; rfl
theorem l_Book {c : Cls} {t ds P E} (h : sp_Book c t ds P E) : ds.length = 1 := by obtain ⟨_, _, rfl, _⟩ := h; rfl
theorem n_Book {c : Cls} {t ds P E} (h : sp_Book c t ds P E) : sp_Book c t ds (fun t d => d = .non ∧ P t d) E := by obtain ⟨h1, m, h2, h3⟩ := h; exact ⟨h1, m, h2, rfl, h3⟩
theorem l_Book_put {c : Cls} {t ds P E} (h : sp_Book_put c t ds P E) : ds.length = 3 := by obtain ⟨_, _, _, _, _, _, _, rfl, _⟩ := h; rfl
theorem l_Book_drop {c : Cls} {t ds P E} (h : sp_Book_drop c t ds P E) : ds.length = 2 := by obtain ⟨_, _, _, _, _, _, rfl, _⟩ := h; rfl
theorem l_Book_rows {c : Cls} {ds P E} (h : sp_Book_rows c ds P E) : ds.length = 1 := by obtain ⟨_, _, _, rfl, _⟩ := h; rfl

def sp_law_stream (_ : Cls) : Sp2 := fun ds P _ => ∃ (i : Int) (m : Nat), ds = [.int i, .int m] ∧ m ≤ 1000 ∧ ∀ xs : List Int, xs.length = m → (∀ x ∈ xs, 0 ≤ x ∧ x < 2147483647) → P (.lst (xs.map .int))
def sp_law_names (_ : Cls) : Sp2 := fun ds P _ => ∃ (n : Int) (m : Nat), ds = [.int n, .int m] ∧ m ≤ 8 ∧ ∀ xs : List Str, xs.length = m → (∀ x ∈ xs, nmS x = true) → xs.Nodup → xs.Pairwise (fun a b => a.length ≤ b.length) → P (.lst (xs.map .str))
def sp_law_odd_name (_ : Cls) : Sp2 := fun ds P _ => ∃ (x : Str) (i : Int), ds = [.str x, .int i] ∧ nmS x = true ∧ 0 ≤ i ∧ ∀ d, tyOk d → nmD d = false → P d
def sp_law_odd_mark (_ : Cls) : Sp2 := fun ds P _ => ∃ i m : Int, ds = [.int i, .int m] ∧ 0 ≤ i ∧ ∀ d, tyOk d → mkB m d = false → P d
def told (w : String) : D := .str (Str.ofString w)
def sp_law_class (c : Cls) : SpM := fun t ds P _ => ∃ (m : Int) (ps : List P2) (vs : List Int) (y : Int) (w h k : D), t = bkT c.Book m ps vs ∧ ds = [.int y, w, h, k] ∧ tyOk w ∧ tyOk h ∧ tyOk k ∧ ps.length = vs.length ∧ ps.Nodup ∧ ps.length < 1000 ∧
  ((y = 0 ∧ (nmD w && nmD h) = false ∧ P t (told "name")) ∨ (y = 0 ∧ (nmD w && nmD h) = true ∧ mkB m k = false ∧ P t (told "mark")) ∨
   (y = 0 ∧ (nmD w && nmD h) = true ∧ mkB m k = true ∧ (∃ w' h', w = .str w' ∧ h = .str h' ∧ (w', h') ∈ ps) ∧ P t (told "twice")) ∨
   (y = 1 ∧ ((nmD w && nmD h) = false ∨ ∃ w' h', w = .str w' ∧ h = .str h' ∧ (w', h') ∉ ps) ∧ P t (told "missing")))
def sp_law_right (c : Cls) : SpM := fun t ds P _ => ∃ (m : Int) (a b o : Str) (v : Int) (xs : List Int), t = bkT c.Book m [(a, b)] [v] ∧ ds = [.lst [.str a, .str b, .str o], .int m, .lst (xs.map .int)] ∧ nmS a = true ∧ nmS b = true ∧ nmS o = true ∧ a ≠ o ∧ a.length ≤ b.length ∧ 0 ≤ m ∧ xs.length = 4 ∧ (∀ x ∈ xs, 0 ≤ x) ∧ P t (.bl true)
def sp_law (_ : Cls) : Sp2 := sp_law0
theorem l_law {c : Cls} {ds P E} (h : sp_law c ds P E) : ds.length = 1 := by obtain ⟨_, rfl, _⟩ := h; rfl
theorem l_law_stream {c : Cls} {ds P E} (h : sp_law_stream c ds P E) : ds.length = 2 := by obtain ⟨_, _, rfl, _⟩ := h; rfl
theorem l_law_names {c : Cls} {ds P E} (h : sp_law_names c ds P E) : ds.length = 2 := by obtain ⟨_, _, rfl, _⟩ := h; rfl
theorem l_law_odd_name {c : Cls} {ds P E} (h : sp_law_odd_name c ds P E) : ds.length = 2 := by obtain ⟨_, _, rfl, _⟩ := h; rfl
theorem l_law_odd_mark {c : Cls} {ds P E} (h : sp_law_odd_mark c ds P E) : ds.length = 2 := by obtain ⟨_, _, rfl, _⟩ := h; rfl
theorem l_law_class {c : Cls} {t ds P E} (h : sp_law_class c t ds P E) : ds.length = 4 := by obtain ⟨_, _, _, _, _, _, _, _, rfl, _⟩ := h; rfl
theorem l_law_right {c : Cls} {t ds P E} (h : sp_law_right c t ds P E) : ds.length = 3 := by obtain ⟨_, _, _, _, _, _, _, rfl, _⟩ := h; rfl

def rd_is_mark_1 (K : PySem.W.Frag) (c : Cls) : TS2 := (cRet (cChain gLe gLe (cC (.int 0)) (cV 0) (cV 1)))
def rd_is_mark (K : PySem.W.Frag) (c : Cls) : TS2 := (cSeq (cIfS (cOr (cT (cIsi "bool" (cV 0))) (cNot (cT (cIsi "int" (cV 0)))))
 (cRet (cC (.bl false)))
 cNext)
 (rd_is_mark_1 K c))
def rd_is_name_2 (K : PySem.W.Frag) (c : Cls) : TS2 := (cRet (cCB u_all (cCons (cOf (fComp 1 [] (i_txt (cV 0)) (hName 0) cYes (cChain gLeT gLeT (cC (.str (Str.ofString "a"))) (cV 0) (cC (.str (Str.ofString "z")))))) cNil)))
def rd_is_name_1 (K : PySem.W.Frag) (c : Cls) : TS2 := (cSeq (cIfS (cNot (cT (cChain gLe gLe (cC (.int 1)) (cCB u_len (cCons (cV 0) cNil)) (cC (.int 8)))))
 (cRet (cC (.bl false)))
 cNext)
 (rd_is_name_2 K c))
def rd_is_name (K : PySem.W.Frag) (c : Cls) : TS2 := (cSeq (cIfS (cNot (cT (cIsi "str" (cV 0))))
 (cRet (cC (.bl false)))
 cNext)
 (rd_is_name_1 K c))
def rd_Book_put_3 (K : PySem.W.Frag) (c : Cls) : TS2 := (cPutO c.Book 0 "marks" 1 2 (cV 3))
def rd_Book_put_2 (K : PySem.W.Frag) (c : Cls) : TS2 := (cSeq (cIfS (cInO c.Book false 0 "marks" (cTup (cCons (cV 1) (cCons (cV 2) cNil))))
 (cRaise c.Twice (cCons (cC (.str (Str.ofString "a hand marks a work once"))) cNil))
 cNext)
 (rd_Book_put_3 K c))
def rd_Book_put_1 (K : PySem.W.Frag) (c : Cls) : TS2 := (cSeq (cIfS (cNot (cT (cCall (sp_is_mark c) (cCons (cV 3) (cCons (cFldO c.Book 0 "most") cNil)))))
 (cRaise c.NoMark (cCons (cC (.str (Str.ofString "a mark is a whole number from 0 to the most"))) cNil))
 cNext)
 (rd_Book_put_2 K c))
def rd_Book_put (K : PySem.W.Frag) (c : Cls) : TS2 := (cSeq (cIfS (cOr (cNot (cT (cCall (sp_is_name c) (cCons (cV 1) cNil)))) (cNot (cT (cCall (sp_is_name c) (cCons (cV 2) cNil)))))
 (cRaise c.NoName (cCons (cC (.str (Str.ofString "a name has one to eight letters from a to z"))) cNil))
 cNext)
 (rd_Book_put_1 K c))
def rd_Book_drop_1 (K : PySem.W.Frag) (c : Cls) : TS2 := (cPopO c.Book 0 "marks" 1 2)
def rd_Book_drop (K : PySem.W.Frag) (c : Cls) : TS2 := (cSeq (cIfS (cOr (cNot (cT (cCall (sp_is_name c) (cCons (cV 1) cNil)))) (cOr (cNot (cT (cCall (sp_is_name c) (cCons (cV 2) cNil)))) (cInO c.Book true 0 "marks" (cTup (cCons (cV 1) (cCons (cV 2) cNil))))))
 (cRaise c.Missing (cCons (cC (.str (Str.ofString "this hand has no mark of this work"))) cNil))
 cNext)
 (rd_Book_drop_1 K c))
def rd_law_names_b2 (K : PySem.W.Frag) (c : Cls) : TS2 := (cSet 8 (cB gAdd (cV 8) (cB gIx (cV 2) (cB gMod (cB gAdd (cB gIx (cV 5) (cV 9)) (cB gMul (cB gMul (cB gAdd (cC (.int 1)) (cB gMul (cB gMod (cB gDiv (cV 0) (cC (.int 64))) (cC (.int 3))) (cC (.int 2)))) (cV 7)) (cCB u_int (cCons (cB gEq (cV 9) (cV 4)) cNil)))) (cC (.int 26))))))
def rd_law_names_b1_3 (K : PySem.W.Frag) (c : Cls) : TS2 := (cOw 6 w_append (cCons (cV 8) cNil))
def rd_law_names_b1_2 (K : PySem.W.Frag) (c : Cls) : TS2 := (cSeq (cIfS (cAnd (cT (cB gEq (cB gMod (cB gDiv (cV 0) (cC (.int 24))) (cC (.int 5))) (cC (.int 1)))) (cT (cB gLe (cV 1) (cC (.int 8)))))
 (cSet 8 (cJoin (cOf (fComp 1 [2] (iL (cOf (fSl (cV 5) oNo (oIs (cB gAdd (cV 7) (cC (.int 1))))))) (hName 0) cYes (cB gIx (cV 1) (cV 0))))))
 cNext)
 (rd_law_names_b1_3 K c))
def rd_law_names_b1_1 (K : PySem.W.Frag) (c : Cls) : TS2 := (cSeq (cRng1 (cCons (cV 3) cNil) (hName 9)
 (rd_law_names_b2 K c))
 (rd_law_names_b1_2 K c))
def rd_law_names_b1 (K : PySem.W.Frag) (c : Cls) : TS2 := (cSeq (cSet 8 (cC (.str (Str.ofString ""))))
 (rd_law_names_b1_1 K c))
def rd_law_names_6 (K : PySem.W.Frag) (c : Cls) : TS2 := (cRet (cV 6))
def rd_law_names_5 (K : PySem.W.Frag) (c : Cls) : TS2 := (cSeq (cRng1 (cCons (cV 1) cNil) (hName 7)
 (rd_law_names_b1 K c))
 (rd_law_names_6 K c))
def rd_law_names_4 (K : PySem.W.Frag) (c : Cls) : TS2 := (cSeq (cSetF 6 (fLst cNil))
 (rd_law_names_5 K c))
def rd_law_names_3 (K : PySem.W.Frag) (c : Cls) : TS2 := (cSeq (cSet 5 (cOf (fComp 1 [0] (iRg1 (cCons (cC (.int 8)) cNil)) (hName 0) cYes (cB gMod (cB gAdd (cB gDiv (cB gDiv (cV 1) (cC (.int 192))) (cB gAdd (cV 0) (cC (.int 1)))) (cB gMul (cB gMul (cC (.int 5)) (cV 0)) (cV 0))) (cC (.int 26))))))
 (rd_law_names_4 K c))
def rd_law_names_2 (K : PySem.W.Frag) (c : Cls) : TS2 := (cSeq (cSet 4 (cB gMod (cB gDiv (cV 0) (cC (.int 8))) (cV 3)))
 (rd_law_names_3 K c))
def rd_law_names_1 (K : PySem.W.Frag) (c : Cls) : TS2 := (cSeq (cSet 3 (cB gAdd (cC (.int 1)) (cB gMod (cV 0) (cC (.int 8)))))
 (rd_law_names_2 K c))
def rd_law_names (K : PySem.W.Frag) (c : Cls) : TS2 := (cSeq (cSet 2 (cC (.str (Str.ofString "abcdefghijklmnopqrstuvwxyz"))))
 (rd_law_names_1 K c))
def rd_Book___init___1 (K : PySem.W.Frag) (c : Cls) : TS2 := (cSetAN c.Book 0 "marks" nDT)
def rd_Book___init__ (K : PySem.W.Frag) (c : Cls) : TS2 := (cSeq (cSetA c.Book 0 "most" (cV 1))
 (rd_Book___init___1 K c))
def rd_Book_rows (K : PySem.W.Frag) (c : Cls) : TS2 := (cRet (cOf (fComp 2 [0] (iL (cOf (fCB n_srtDT (cCons (cFld c.Book "marks" (cV 0)) cNil)))) (hTup 2 (hCons (hName 0) (hCons (hName 1) hNil))) cYes (cTup (cCons (cV 0) (cCons (cV 1) (cCons (cB gIxT (cFld c.Book "marks" (cV 2)) (cTup (cCons (cV 0) (cCons (cV 1) cNil)))) cNil)))))))
def rd_law_cell_3 (K : PySem.W.Frag) (c : Cls) : TS2 := (cRet (cB gMod (cB gMul (cV 2) (cV 2)) (cC (.int 2147483629))))
def rd_law_cell_2 (K : PySem.W.Frag) (c : Cls) : TS2 := (cSeq (cIfS (cT (cB gGt (cCB u_len (cCons (cV 0) cNil)) (cC (.int 0))))
 (cSet 2 (cB gMod (cB gAdd (cB gMul (cB gIx (cV 0) (cB gMod (cB gMul (cV 1) (cC (.int 7))) (cCB u_len (cCons (cV 0) cNil)))) (cC (.int 48271))) (cB gMul (cV 1) (cC (.int 7919)))) (cC (.int 2147483647))))
 cNext)
 (rd_law_cell_3 K c))
def rd_law_cell_1 (K : PySem.W.Frag) (c : Cls) : TS2 := (cSeq (cSet 2 (cB gAdd (cB gMul (cV 1) (cC (.int 7919))) (cC (.int 5))))
 (rd_law_cell_2 K c))
def rd_law_cell (K : PySem.W.Frag) (c : Cls) : TS2 := (cSeq (cIfS (cT (cB gLt (cV 1) (cCB u_len (cCons (cV 0) cNil))))
 (cRet (cB gIx (cV 0) (cV 1)))
 cNext)
 (rd_law_cell_1 K c))
def rd_law_odd_name_4 (K : PySem.W.Frag) (c : Cls) : TS2 := (cRet (cB gIx (cV 4) (cB gMod (cV 1) (cC (.int 12)))))
def rd_law_odd_name_3 (K : PySem.W.Frag) (c : Cls) : TS2 := (cSeq (cSet 4 (cOf (fCat (cV 4) (cOf (fLst (cCons (cOf (fLst (cCons (cV 0) cNil))) (cCons (cUp (cSlS (cV 0) oNo (oIs (cC (.int 1))))) (cCons (cB gAdd (cB gAdd (cSlS (cV 3) oNo (oIs (cV 2))) (cC (.str (Str.ofString "-")))) (cSlS (cV 3) (oIs (cV 2)) oNo)) (cCons (cB gAdd (cB gAdd (cSlS (cV 3) oNo (oIs (cV 2))) (cC (.str (Str.ofString "_")))) (cSlS (cV 3) (oIs (cV 2)) oNo)) cNil)))))))))
 (rd_law_odd_name_4 K c))
def rd_law_odd_name_2 (K : PySem.W.Frag) (c : Cls) : TS2 := (cSeq (cSet 4 (cOf (fLst (cCons (cC (.str (Str.ofString ""))) (cCons (cC (.str (Str.ofString "abcdefghi"))) (cCons (cB gAdd (cSlS (cV 0) oNo (oIs (cV 2))) (cC (.str (Str.ofString "A")))) (cCons (cB gAdd (cB gAdd (cSlS (cV 3) oNo (oIs (cV 2))) (cC (.str (Str.ofString "1")))) (cSlS (cV 3) (oIs (cV 2)) oNo)) (cCons (cB gAdd (cB gAdd (cSlS (cV 3) oNo (oIs (cV 2))) (cC (.str (Str.ofString " ")))) (cSlS (cV 3) (oIs (cV 2)) oNo)) (cCons (cC (.int 5)) (cCons (cC .non) (cCons (cC (.bl true)) cNil)))))))))))
 (rd_law_odd_name_3 K c))
def rd_law_odd_name_1 (K : PySem.W.Frag) (c : Cls) : TS2 := (cSeq (cSet 3 (cSlS (cV 0) oNo (oIs (cC (.int 7)))))
 (rd_law_odd_name_2 K c))
def rd_law_odd_name (K : PySem.W.Frag) (c : Cls) : TS2 := (cSeq (cSet 2 (cB gMod (cB gDiv (cV 1) (cC (.int 13))) (cB gAdd (cCB u_len (cCons (cV 0) cNil)) (cC (.int 1)))))
 (rd_law_odd_name_1 K c))
def rd_law_class_2 (K : PySem.W.Frag) (c : Cls) : TS2 := (cRetM (cV 5))
def rd_law_class_1 (K : PySem.W.Frag) (c : Cls) : TS2 := (cSeq (cTryA K c.HallError 6 (cIfS (cT (cB gEq (cV 1) (cC (.int 0))))
 (cDrop (cMethO c.Book "put" 0 (sp_Book_put c) (cCons (cV 2) (cCons (cV 3) (cCons (cV 4) cNil)))))
 (cDrop (cMethO c.Book "drop" 0 (sp_Book_drop c) (cCons (cV 2) (cCons (cV 3) cNil)))))
 (cSeq (cSet 7 (cOf (fLst (cCons (cIsx K c.NoName (cV 6)) (cCons (cIsx K c.NoMark (cV 6)) (cCons (cIsx K c.Twice (cV 6)) (cCons (cIsx K c.Missing (cV 6)) cNil)))))))
 (cSeq (cSet 5 (cC (.str (Str.ofString "other"))))
 (cSeq (cSet 8 (cAndV (cIsv K (cV 6)) (cNotV (cIst K [c.Apart, c.Few, c.NoRow, c.NoWork] (cV 6)))))
 (cIfS (cAnd (cT (cV 8)) (cT (cB gEq (cCB u_len (cCons (cOf (fComp 1 [] (iLh (cV 7)) (hName 0) (cT (cV 0)) (cV 0))) cNil)) (cC (.int 1)))))
 (cSet 5 (cB gIx (cOf (fLst (cCons (cC (.str (Str.ofString "name"))) (cCons (cC (.str (Str.ofString "mark"))) (cCons (cC (.str (Str.ofString "twice"))) (cCons (cC (.str (Str.ofString "missing"))) cNil)))))) (cIdx (cV 7) (cC (.bl true)))))
 cNext)))))
 (rd_law_class_2 K c))
def rd_law_class (K : PySem.W.Frag) (c : Cls) : TS2 := (cSeq (cSet 5 (cC (.str (Str.ofString "none"))))
 (rd_law_class_1 K c))
def rd_law_odd_mark_1 (K : PySem.W.Frag) (c : Cls) : TS2 := (cRet (cB gIx (cV 2) (cB gMod (cV 0) (cC (.int 9)))))
def rd_law_odd_mark (K : PySem.W.Frag) (c : Cls) : TS2 := (cSeq (cSet 2 (cOf (fLst (cCons (cU gNeg (cC (.int 1))) (cCons (cB gAdd (cV 1) (cC (.int 1))) (cCons (cB gAdd (cB gAdd (cV 1) (cC (.int 2))) (cB gMod (cB gDiv (cV 0) (cC (.int 9))) (cB gPow (cC (.int 10)) (cC (.int 9))))) (cCons (cB gSub (cU gNeg (cC (.int 1))) (cB gDiv (cV 0) (cC (.int 9)))) (cCons (cC (.bl true)) (cCons (cC (.bl false)) (cCons (cC (.str (Str.ofString "1"))) (cCons (cC .non) (cCons (cOf (fLst (cCons (cC (.int 1)) cNil))) cNil))))))))))))
 (rd_law_odd_mark_1 K c))
def rd_law_right_6 (K : PySem.W.Frag) (c : Cls) : TS2 := (cRetM (cAndV (cB gEq (cCallO 0 (sp_law_class c) (cCons (cC (.int 1)) (cCons (cV 7) (cCons (cV 5) (cCons (cC (.int 0)) cNil))))) (cC (.str (Str.ofString "missing")))) (cB gEq (cCallO 0 (sp_law_class c) (cCons (cC (.int 1)) (cCons (cV 4) (cCons (cV 7) (cCons (cC (.int 0)) cNil))))) (cC (.str (Str.ofString "missing"))))))
def rd_law_right_5 (K : PySem.W.Frag) (c : Cls) : TS2 := (cSeq (cSet 7 (cB gIx (cOf (fLst (cCons (cC (.str (Str.ofString ""))) (cCons (cC (.str (Str.ofString "Aa"))) (cCons (cC (.str (Str.ofString "a b"))) (cCons (cC (.str (Str.ofString "abcdefghijk"))) (cCons (cC (.int 5)) (cCons (cC .non) (cCons (cC (.bl true)) (cCons (cOf (fLst (cCons (cV 4) cNil))) cNil)))))))))) (cB gMod (cB gIx (cV 3) (cC (.int 1))) (cC (.int 8)))))
 (rd_law_right_6 K c))
def rd_law_right_4 (K : PySem.W.Frag) (c : Cls) : TS2 := (cSeq (cIfS (cT (cB gEq (cB gMod (cB gIx (cV 3) (cC (.int 0))) (cC (.int 5))) (cC (.int 3))))
 (cSeq (cIfS (cT (cB gNe (cCallO 0 (sp_law_class c) (cCons (cC (.int 1)) (cCons (cB gAdd (cV 5) (cC (.str (Str.ofString "x")))) (cCons (cV 5) (cCons (cC (.int 0)) cNil))))) (cC (.str (Str.ofString "missing")))))
 (cRetM (cC (.bl false)))
 cNext)
 (cRetM (cB gEq (cCallO 0 (sp_law_class c) (cCons (cC (.int 1)) (cCons (cV 6) (cCons (cV 5) (cCons (cC (.int 0)) cNil))))) (cC (.str (Str.ofString "missing"))))))
 cNext)
 (rd_law_right_5 K c))
def rd_law_right_3 (K : PySem.W.Frag) (c : Cls) : TS2 := (cSeq (cIfS (cT (cB gEq (cB gMod (cB gIx (cV 3) (cC (.int 0))) (cC (.int 5))) (cC (.int 2))))
 (cRetM (cB gEq (cCallO 0 (sp_law_class c) (cCons (cC (.int 0)) (cCons (cV 4) (cCons (cV 5) (cCons (cB gMod (cB gIx (cV 3) (cC (.int 2))) (cB gAdd (cV 2) (cC (.int 1)))) cNil))))) (cC (.str (Str.ofString "twice")))))
 cNext)
 (rd_law_right_4 K c))
def rd_law_right_2 (K : PySem.W.Frag) (c : Cls) : TS2 := (cSeq (cIfS (cT (cB gEq (cB gMod (cB gIx (cV 3) (cC (.int 0))) (cC (.int 5))) (cC (.int 1))))
 (cRetM (cB gEq (cCallO 0 (sp_law_class c) (cCons (cC (.int 0)) (cCons (cB gIx (cOf (fLst (cCons (cV 4) (cCons (cV 6) cNil)))) (cB gMod (cB gIx (cV 3) (cC (.int 3))) (cC (.int 2)))) (cCons (cV 5) (cCons (cCall (sp_law_odd_mark c) (cCons (cB gIx (cV 3) (cC (.int 2))) (cCons (cV 2) cNil))) cNil))))) (cC (.str (Str.ofString "mark")))))
 cNext)
 (rd_law_right_3 K c))
def rd_law_right_1 (K : PySem.W.Frag) (c : Cls) : TS2 := (cSeq (cIfS (cT (cB gEq (cB gMod (cB gIx (cV 3) (cC (.int 0))) (cC (.int 5))) (cC (.int 0))))
 (cSeq (cSet 7 (cCall (sp_law_odd_name c) (cCons (cV 4) (cCons (cB gIx (cV 3) (cC (.int 1))) cNil))))
 (cSeq (cSet 8 (cB gIx (cOf (fLst (cCons (cC (.int 0)) (cCons (cCall (sp_law_odd_mark c) (cCons (cB gIx (cV 3) (cC (.int 2))) (cCons (cV 2) cNil))) cNil)))) (cB gMod (cB gIx (cV 3) (cC (.int 3))) (cC (.int 2)))))
 (cRetM (cAndV (cB gEq (cCallO 0 (sp_law_class c) (cCons (cC (.int 0)) (cCons (cV 7) (cCons (cV 5) (cCons (cV 8) cNil))))) (cC (.str (Str.ofString "name")))) (cB gEq (cCallO 0 (sp_law_class c) (cCons (cC (.int 0)) (cCons (cV 4) (cCons (cV 7) (cCons (cV 8) cNil))))) (cC (.str (Str.ofString "name"))))))))
 cNext)
 (rd_law_right_2 K c))
def rd_law_right (K : PySem.W.Frag) (c : Cls) : TS2 := (cSeq (cAsg (cV 1) (hLst 3 (hCons (hName 4) (hCons (hName 5) (hCons (hName 6) hNil)))))
 (rd_law_right_1 K c))
def rd_law_stream_b1_1 (K : PySem.W.Frag) (c : Cls) : TS2 := (cOw 2 w_append (cCons (cV 3) cNil))
def rd_law_stream_b1 (K : PySem.W.Frag) (c : Cls) : TS2 := (cSeq (cSet 3 (cB gMod (cB gAdd (cB gMul (cV 3) (cC (.int 48271))) (cC (.int 12345))) (cC (.int 2147483647))))
 (rd_law_stream_b1_1 K c))
def rd_law_stream_3 (K : PySem.W.Frag) (c : Cls) : TS2 := (cRet (cV 2))
def rd_law_stream_2 (K : PySem.W.Frag) (c : Cls) : TS2 := (cSeq (cRng1 (cCons (cV 1) cNil) (hName 4)
 (rd_law_stream_b1 K c))
 (rd_law_stream_3 K c))
def rd_law_stream_1 (K : PySem.W.Frag) (c : Cls) : TS2 := (cSeq (cSet 3 (cB gMod (cV 0) (cC (.int 2147483647))))
 (rd_law_stream_2 K c))
def rd_law_stream (K : PySem.W.Frag) (c : Cls) : TS2 := (cSeq (cSetF 2 (fLst cNil))
 (rd_law_stream_1 K c))
def rd_law_b1_1 (K : PySem.W.Frag) (c : Cls) : TS2 := (cIfS (cPeekT (cT (cB gNe (cMeth0 c.Book "rows" (sp_Book_rows c) (cV 4)) (cOf (fLst (cCons (cTup (cCons (cB gIx (cV 2) (cC (.int 0))) (cCons (cB gIx (cV 2) (cC (.int 1))) (cCons (cV 3) cNil)))) cNil))))))
 (cRet (cC (.bl false)))
 cNext)
def rd_law_b1 (K : PySem.W.Frag) (c : Cls) : TS2 := (cSeq (cIfS (cNot (cT (cCallO 4 (sp_law_right c) (cCons (cV 2) (cCons (cV 1) (cCons (cCall (sp_law_stream c) (cCons (cCall (sp_law_cell c) (cCons (cV 0) (cCons (cB gAdd (cC (.int 3)) (cV 5)) cNil))) (cCons (cC (.int 4)) cNil))) cNil))))))
 (cRet (cC (.bl false)))
 cNext)
 (rd_law_b1_1 K c))
def rd_law_10 (K : PySem.W.Frag) (c : Cls) : TS2 := (cRet (cPeek (cB gEq (cMeth0 c.Book "rows" (sp_Book_rows c) (cV 4)) (cOf (fLst (cCons (cTup (cCons (cB gIx (cV 2) (cC (.int 0))) (cCons (cB gIx (cV 2) (cC (.int 1))) (cCons (cB gSub (cV 1) (cV 3)) cNil)))) cNil))))))
def rd_law_9 (K : PySem.W.Frag) (c : Cls) : TS2 := (cSeq (cDrop (cMethO c.Book "put" 4 (sp_Book_put c) (cCons (cB gIx (cV 2) (cC (.int 0))) (cCons (cB gIx (cV 2) (cC (.int 1))) (cCons (cB gSub (cV 1) (cV 3)) cNil)))))
 (rd_law_10 K c))
def rd_law_8 (K : PySem.W.Frag) (c : Cls) : TS2 := (cSeq (cIfS (cOr (cPeekT (cT (cB gNe (cMeth0 c.Book "rows" (sp_Book_rows c) (cV 4)) (cOf (fLst cNil))))) (cT (cB gNe (cCallO 4 (sp_law_class c) (cCons (cC (.int 1)) (cCons (cB gIx (cV 2) (cC (.int 0))) (cCons (cB gIx (cV 2) (cC (.int 1))) (cCons (cC (.int 0)) cNil))))) (cC (.str (Str.ofString "missing"))))))
 (cRet (cC (.bl false)))
 cNext)
 (rd_law_9 K c))
def rd_law_7 (K : PySem.W.Frag) (c : Cls) : TS2 := (cSeq (cDrop (cMethO c.Book "drop" 4 (sp_Book_drop c) (cCons (cB gIx (cV 2) (cC (.int 0))) (cCons (cB gIx (cV 2) (cC (.int 1))) cNil))))
 (rd_law_8 K c))
def rd_law_6 (K : PySem.W.Frag) (c : Cls) : TS2 := (cSeq (cRng1 (cCons (cC (.int 12)) cNil) (hName 5)
 (rd_law_b1 K c))
 (rd_law_7 K c))
def rd_law_5 (K : PySem.W.Frag) (c : Cls) : TS2 := (cSeq (cDrop (cMethO c.Book "put" 4 (sp_Book_put c) (cCons (cB gIx (cV 2) (cC (.int 0))) (cCons (cB gIx (cV 2) (cC (.int 1))) (cCons (cV 3) cNil)))))
 (rd_law_6 K c))
def rd_law_4 (K : PySem.W.Frag) (c : Cls) : TS2 := (cSeq (cSetO 4 (cMakeO c.Book (sp_Book c) (cCons (cV 1) cNil)))
 (rd_law_5 K c))
def rd_law_3 (K : PySem.W.Frag) (c : Cls) : TS2 := (cSeq (cSet 3 (cB gMod (cCall (sp_law_cell c) (cCons (cV 0) (cCons (cC (.int 2)) cNil))) (cB gAdd (cV 1) (cC (.int 1)))))
 (rd_law_4 K c))
def rd_law_2 (K : PySem.W.Frag) (c : Cls) : TS2 := (cSeq (cSet 2 (cCall (sp_law_names c) (cCons (cCall (sp_law_cell c) (cCons (cV 0) (cCons (cC (.int 1)) cNil))) (cCons (cC (.int 3)) cNil))))
 (rd_law_3 K c))
def rd_law_1 (K : PySem.W.Frag) (c : Cls) : TS2 := (cSeq (cIfS (cT (cB gEq (cB gMod (cB gDiv (cCall (sp_law_cell c) (cCons (cV 0) (cCons (cC (.int 0)) cNil))) (cC (.int 10))) (cC (.int 3))) (cC (.int 1))))
 (cSet 1 (cB gMod (cB gDiv (cCall (sp_law_cell c) (cCons (cV 0) (cCons (cC (.int 0)) cNil))) (cC (.int 30))) (cB gPow (cC (.int 10)) (cC (.int 59)))))
 cNext)
 (rd_law_2 K c))
def rd_law (K : PySem.W.Frag) (c : Cls) : TS2 := (cSeq (cSet 1 (cB gMod (cCall (sp_law_cell c) (cCons (cV 0) (cCons (cC (.int 0)) cNil))) (cC (.int 10))))
 (rd_law_1 K c))

abbrev fin (Q : D → Prop) : End2 := { nx := fun _ => Q .non, rt := Q }
theorem sl1 : (1000 : Nat) < sizeLine := by decide
theorem lfr {i m : Int} (hm : 0 < m) : 0 ≤ i.fmod m ∧ i.fmod m < m := by
  rw [Int.fmod_eq_emod_of_nonneg _ (by omega)]
  exact ⟨Int.emod_nonneg _ (by omega), Int.emod_lt_of_pos _ hm⟩
theorem deq_int (i j : Int) : deq (.int i) (.int j) = decide (i = j) := by
  simp only [deq]
  by_cases h : i = j <;> simp [h]
theorem fmod_nat {i : Int} {n : Nat} (h : 0 < n) : ∃ k : Nat, i.fmod (n : Int) = (k : Int) ∧ k < n := by
  have := lfr (i := i) (m := (n : Int)) (by omega)
  exact ⟨(i.fmod (n : Int)).toNat, by omega, by omega⟩
theorem r_law_cell {K : PySem.W.Frag} {c : Cls} {ds Q Ex} (h : sp_law_cell c ds Q Ex) : rd_law_cell K c (fin Q) (start3 3 ds) fun _ => Ex := by
  obtain ⟨ns, k, rfl, hl, hk, h⟩ := h
  show if decide ((k : Int) < ((ns.map D.int).length : Int)) = true then _ else _
  rw [List.length_map]
  by_cases hlt : k < ns.length
  · rw [if_pos (by simpa using hlt)]
    refine ⟨.int ns[k], atI_nat (by simp [hlt]), ?_⟩
    unfold cellV at h
    rw [dif_pos hlt] at h
    exact h
  · rw [if_neg (by simpa using hlt)]
    unfold cellV at h
    rw [dif_neg hlt] at h
    have bk : bln (k : Int) ≤ 10 := bln_le (by simp only [Int.natAbs_natCast]; omega)
    refine ⟨.inr (.inl (bln_le (by decide))), ?_⟩
    show if decide ((0 : Int) < ((ns.map D.int).length : Int)) = true then _ else _
    rw [List.length_map]
    have fin2 : ∀ m : Int, m.natAbs < 2 ^ 40 → Q (.int ((m * m).fmod 2147483629)) → MulC m m ∧ (2147483629 : Int) ≠ 0 ∧ Q (.int ((m * m).fmod 2147483629)) := fun m hm hq =>
      ⟨.inl (Nat.le_trans (bln_le hm) (by decide)), by decide, hq⟩
    by_cases he : ns = []
    · subst he
      rw [if_neg (by simp)]
      rw [if_pos rfl] at h
      exact fin2 _ (by omega) h
    · have hp : 0 < ns.length := (by cases ns with | nil => exact absurd rfl he | cons _ _ => exact Nat.succ_pos _)
      rw [if_pos (by simpa using hp)]
      rw [if_neg he] at h
      refine ⟨.inr (.inl (bln_le (by decide))), show ((ns.map D.int).length : Int) ≠ 0 by rw [List.length_map]; omega, ?_⟩
      have hm : ((k : Int) * 7).fmod ((ns.map D.int).length : Int) = ((k * 7 % ns.length : Nat) : Int) := by
        rw [List.length_map, Int.fmod_eq_emod_of_nonneg _ (by omega), Int.natCast_emod, Int.natCast_mul]
        rfl
      dsimp only [cSeq, cNext, cC, cV, cB, cT, cAnd, cOr, cNot, cAndV, cOrV, cNotV, cIf, cNil, cCons, cTup, fLst, cOf, cDrop, cRet, cRetN, cIfS, cSet, cSetF, hName, hNil, hCons, hTup, cAsg, cPar, cCall, cU, cCB, gNeg, gAdd, gSub, gMul, gDiv, gMod, gPow, gLt, gLe, gGt, gGe, gIs, gIsN, gEq, gNe, gIx, wI, wI0, u_abs, u_len, u_max, u_min, cRaise, cTry, cTryA, cIsi, cIsx, List.length, List.set_cons_zero, List.set_cons_succ, List.getElem?_cons_zero, List.getElem?_cons_succ, isNon, fCB, n_list, u_tuple, oNo, oIs, fSl, fRev, cPeek, cPeekT, cIxO, cOw, w_append, w_insert, fCat, gIn, cChain, cCallN, u_int, n_sorted, i_enumerate, cIsv, cIst, iL, cForI, frzG, frzS, cYes, List.map, List.append, List.cons_append, List.nil_append]
      rw [hm]
      have hlt2 : k * 7 % ns.length < ns.length := Nat.mod_lt _ hp
      refine ⟨.int (ns.getD (k * 7 % ns.length) 0), atI_nat (by simp [List.getElem?_map, List.getD_eq_getElem?_getD, hlt2]), ?_⟩
      refine ⟨.inr (.inl (bln_le (by decide))), .inr (.inl (bln_le (by decide))), by decide, ?_⟩
      refine fin2 _ ?_ h
      have h1 := fmod_natAbs_lt (a := ns.getD (k * 7 % ns.length) 0 * 48271 + (k : Int) * 7919) (b := 2147483647) (by decide)
      exact Nat.lt_trans h1 (by decide)

theorem isi_str_of {d : D} (h : tyOk d) : (∃ x, d = .str x ∧ x.length ≤ sizeLine ∧ isiB d "str" = some true) ∨ ((∀ x, d ≠ .str x) ∧ isiB d "str" = some false) := by
  obtain ⟨h, hl⟩ := h
  cases d with
  | str x => exact .inl ⟨x, rfl, hl x rfl, by unfold isiB tyD; show PySem.W.kitOne [] _ _ = _; decide +kernel⟩
  | non => exact .inr ⟨fun _ z => (by cases z), by unfold isiB tyD; show PySem.W.kitOne [] _ _ = _; decide +kernel⟩
  | bl b => exact .inr ⟨fun _ z => (by cases z), by unfold isiB tyD; show PySem.W.kitOne [] _ _ = _; decide +kernel⟩
  | int b => exact .inr ⟨fun _ z => (by cases z), by unfold isiB tyD; show PySem.W.kitOne [] _ _ = _; decide +kernel⟩
  | tup b => exact .inr ⟨fun _ z => (by cases z), by unfold isiB tyD; show PySem.W.kitOne [] _ _ = _; decide +kernel⟩
  | lst b => exact .inr ⟨fun _ z => (by cases z), by unfold isiB tyD; show PySem.W.kitOne [] _ _ = _; decide +kernel⟩
  | exc _ => simp [tyD] at h
  | ptr _ => simp [tyD] at h
  | obj _ _ _ => simp [tyD] at h
  | dic _ _ => simp [tyD] at h
  | dit _ _ => simp [tyD] at h
theorem isi_int_of {d : D} (h : tyOk d) : (∃ i, d = .int i ∧ isiB d "bool" = some false ∧ isiB d "int" = some true) ∨ ((∀ i, d ≠ .int i) ∧ (isiB d "bool" = some true ∨ isiB d "bool" = some false ∧ isiB d "int" = some false)) := by
  obtain ⟨h, hl⟩ := h
  cases d with
  | str x => exact .inr ⟨fun _ z => (by cases z), .inr ⟨by unfold isiB tyD; show PySem.W.kitOne [] _ _ = _; decide +kernel, by unfold isiB tyD; show PySem.W.kitOne [] _ _ = _; decide +kernel⟩⟩
  | non => exact .inr ⟨fun _ z => (by cases z), .inr ⟨by unfold isiB tyD; show PySem.W.kitOne [] _ _ = _; decide +kernel, by unfold isiB tyD; show PySem.W.kitOne [] _ _ = _; decide +kernel⟩⟩
  | bl b => exact .inr ⟨fun _ z => (by cases z), .inl (by unfold isiB tyD; show PySem.W.kitOne [] _ _ = _; decide +kernel)⟩
  | int b => exact .inl ⟨b, rfl, by unfold isiB tyD; show PySem.W.kitOne [] _ _ = _; decide +kernel, by unfold isiB tyD; show PySem.W.kitOne [] _ _ = _; decide +kernel⟩
  | tup b => exact .inr ⟨fun _ z => (by cases z), .inr ⟨by unfold isiB tyD; show PySem.W.kitOne [] _ _ = _; decide +kernel, by unfold isiB tyD; show PySem.W.kitOne [] _ _ = _; decide +kernel⟩⟩
  | lst b => exact .inr ⟨fun _ z => (by cases z), .inr ⟨by unfold isiB tyD; show PySem.W.kitOne [] _ _ = _; decide +kernel, by unfold isiB tyD; show PySem.W.kitOne [] _ _ = _; decide +kernel⟩⟩
  | exc _ => simp [tyD] at h
  | ptr _ => simp [tyD] at h
  | obj _ _ _ => simp [tyD] at h
  | dic _ _ => simp [tyD] at h
  | dit _ _ => simp [tyD] at h
theorem nmD_not {d : D} (h : ∀ x, d ≠ .str x) : nmD d = false := by
  cases d with
  | str x => exact absurd rfl (h x)
  | _ => rfl
theorem mkB_not {m : Int} {d : D} (h : ∀ x, d ≠ .int x) : mkB m d = false := by
  cases d with
  | int x => exact absurd rfl (h x)
  | _ => rfl
theorem blsB_map {α : Type} (f : α → Bool) : ∀ l : List α, blsD (l.map fun x => .bl (f x)) = some (l.map f)
  | [] => rfl
  | a :: l => by simp [blsD, blsB_map f l]
theorem compB_all {α : Type} {one : D → (List D → Prop) → Prop} (f : α → D) (g : α → D) : ∀ {l : List α} {P : List D → Prop}, (∀ a ∈ l, ∀ P, P [g a] → one (f a) P) → P (l.map g) → compR one (l.map f) P
  | [], _, _, h => h
  | a :: l, P, k, h => k a List.mem_cons_self _ (compB_all f g (fun b hb => k b (List.mem_cons_of_mem _ hb)) h)
theorem lt_one (a b : Nat) : ltT ⟨#[a]⟩ ⟨#[b]⟩ = decide (a < b) := by
  unfold ltT
  congr 1
  simp [List.cons_lt_cons_iff]
theorem r_is_name {K : PySem.W.Frag} {c : Cls} {ds Q Ex} (h : sp_is_name c ds Q Ex) : rd_is_name K c (fin Q) (start3 1 ds) fun _ => Ex := by
  obtain ⟨d, rfl, ht, h⟩ := h
  change rd_is_name K c (fin Q) [.pu d] fun _ => Ex
  unfold rd_is_name
  dsimp only [cSeq, cNext, cC, cV, cB, cT, cAnd, cOr, cNot, cAndV, cOrV, cNotV, cIf, cNil, cCons, cTup, fLst, cOf, cDrop, cRet, cRetN, cIfS, cSet, cSetF, hName, hNil, hCons, hTup, cAsg, cPar, cCall, cU, cCB, gNeg, gAdd, gSub, gMul, gDiv, gMod, gPow, gLt, gLe, gGt, gGe, gIs, gIsN, gEq, gNe, gIx, wI, wI0, u_abs, u_len, u_max, u_min, cRaise, cTry, cTryA, cIsi, cIsx, List.length, List.set_cons_zero, List.set_cons_succ, List.getElem?_cons_zero, List.getElem?_cons_succ, isNon, fCB, n_list, u_tuple, oNo, oIs, fSl, fRev, cPeek, cPeekT, cIxO, cOw, w_append, w_insert, fCat, gIn, cChain, cCallN, u_int, n_sorted, i_enumerate, cIsv, cIst, iL, cForI, frzG, frzS, cYes, List.map, List.append, List.cons_append, List.nil_append]
  rcases isi_str_of ht with ⟨x, rfl, hl, e⟩ | ⟨hx, e⟩
  · simp only [e, Bool.not_true, Bool.false_eq_true, if_false]
    unfold rd_is_name_1
    dsimp only [cSeq, cNext, cC, cV, cB, cT, cAnd, cOr, cNot, cAndV, cOrV, cNotV, cIf, cNil, cCons, cTup, fLst, cOf, cDrop, cRet, cRetN, cIfS, cSet, cSetF, hName, hNil, hCons, hTup, cAsg, cPar, cCall, cU, cCB, gNeg, gAdd, gSub, gMul, gDiv, gMod, gPow, gLt, gLe, gGt, gGe, gIs, gIsN, gEq, gNe, gIx, wI, wI0, u_abs, u_len, u_max, u_min, cRaise, cTry, cTryA, cIsi, cIsx, List.length, List.set_cons_zero, List.set_cons_succ, List.getElem?_cons_zero, List.getElem?_cons_succ, isNon, fCB, n_list, u_tuple, oNo, oIs, fSl, fRev, cPeek, cPeekT, cIxO, cOw, w_append, w_insert, fCat, gIn, cChain, cCallN, u_int, n_sorted, i_enumerate, cIsv, cIst, iL, cForI, frzG, frzS, cYes, List.map, List.append, List.cons_append, List.nil_append]
    refine ⟨hl, ?_⟩
    have hd : nmD (.str x) = (decide (1 ≤ x.length) && (decide (x.length ≤ 8) && x.cps.toList.all lowB)) := rfl
    rw [hd] at h
    by_cases h1 : 1 ≤ x.length
    · rw [decide_eq_true h1, Bool.true_and] at h
      rw [if_pos (by simp; omega)]
      by_cases h8 : x.length ≤ 8
      · rw [decide_eq_true h8, Bool.true_and] at h
        rw [if_neg (by simp; omega)]
        refine ⟨hl, ?_⟩
        show compR _ ((signs x).map D.str) _
        unfold signs
        rw [List.map_map]
        refine compB_all (D.str ∘ fun c => (⟨#[c]⟩ : Str)) (fun c => .bl (lowB c)) (fun a ha P hp => ?_) ?_
        · show if (!ltT ⟨#[a]⟩ ⟨#[97]⟩) = true then _ else _
          rw [lt_one]
          unfold lowB at hp
          by_cases q : 97 ≤ a
          · rw [decide_eq_true q, Bool.true_and] at hp
            rw [if_pos (by simp; omega)]
            show P [.bl (!ltT ⟨#[122]⟩ ⟨#[a]⟩)]
            rw [lt_one, ← decide_not]
            simpa using hp
          · rw [decide_eq_false q, Bool.false_and] at hp
            rw [if_neg (by simp; omega)]
            exact hp
        · refine ⟨_, blsB_map _ _, ?_⟩
          rw [List.all_map]
          exact h
      · rw [decide_eq_false h8, Bool.false_and] at h
        rw [if_pos (by simp; omega)]
        exact h
    · rw [decide_eq_false h1, Bool.false_and] at h
      rw [if_neg (by simp; omega)]
      exact h
  · simp only [e, Bool.not_false, if_true]
    rw [nmD_not hx] at h
    exact h
theorem r_is_mark {K : PySem.W.Frag} {c : Cls} {ds Q Ex} (h : sp_is_mark c ds Q Ex) : rd_is_mark K c (fin Q) (start3 2 ds) fun _ => Ex := by
  obtain ⟨d, m, rfl, ht, h⟩ := h
  change rd_is_mark K c (fin Q) [.pu d, .pu (.int m)] fun _ => Ex
  unfold rd_is_mark
  dsimp only [cSeq, cNext, cC, cV, cB, cT, cAnd, cOr, cNot, cAndV, cOrV, cNotV, cIf, cNil, cCons, cTup, fLst, cOf, cDrop, cRet, cRetN, cIfS, cSet, cSetF, hName, hNil, hCons, hTup, cAsg, cPar, cCall, cU, cCB, gNeg, gAdd, gSub, gMul, gDiv, gMod, gPow, gLt, gLe, gGt, gGe, gIs, gIsN, gEq, gNe, gIx, wI, wI0, u_abs, u_len, u_max, u_min, cRaise, cTry, cTryA, cIsi, cIsx, List.length, List.set_cons_zero, List.set_cons_succ, List.getElem?_cons_zero, List.getElem?_cons_succ, isNon, fCB, n_list, u_tuple, oNo, oIs, fSl, fRev, cPeek, cPeekT, cIxO, cOw, w_append, w_insert, fCat, gIn, cChain, cCallN, u_int, n_sorted, i_enumerate, cIsv, cIst, iL, cForI, frzG, frzS, cYes, List.map, List.append, List.cons_append, List.nil_append]
  rcases isi_int_of ht with ⟨i, rfl, e1, e2⟩ | ⟨hx, e | ⟨e1, e2⟩⟩
  · simp only [e1, e2, Bool.not_true, Bool.false_eq_true, if_false]
    unfold rd_is_mark_1
    dsimp only [cSeq, cNext, cC, cV, cB, cT, cAnd, cOr, cNot, cAndV, cOrV, cNotV, cIf, cNil, cCons, cTup, fLst, cOf, cDrop, cRet, cRetN, cIfS, cSet, cSetF, hName, hNil, hCons, hTup, cAsg, cPar, cCall, cU, cCB, gNeg, gAdd, gSub, gMul, gDiv, gMod, gPow, gLt, gLe, gGt, gGe, gIs, gIsN, gEq, gNe, gIx, wI, wI0, u_abs, u_len, u_max, u_min, cRaise, cTry, cTryA, cIsi, cIsx, List.length, List.set_cons_zero, List.set_cons_succ, List.getElem?_cons_zero, List.getElem?_cons_succ, isNon, fCB, n_list, u_tuple, oNo, oIs, fSl, fRev, cPeek, cPeekT, cIxO, cOw, w_append, w_insert, fCat, gIn, cChain, cCallN, u_int, n_sorted, i_enumerate, cIsv, cIst, iL, cForI, frzG, frzS, cYes, List.map, List.append, List.cons_append, List.nil_append]
    have hd : mkB m (.int i) = (decide (0 ≤ i) && decide (i ≤ m)) := rfl
    rw [hd] at h
    by_cases q : 0 ≤ i
    · rw [decide_eq_true q, Bool.true_and] at h
      rw [if_pos (by simpa using q)]
      exact h
    · rw [decide_eq_false q, Bool.false_and] at h
      rw [if_neg (by simpa using q)]
      exact h
  · simp only [e, if_true]
    rw [mkB_not hx] at h
    exact h
  · simp only [e1, e2, Bool.not_false, if_true, Bool.false_eq_true, if_false]
    rw [mkB_not hx] at h
    exact h

theorem r_Book {K : PySem.W.Frag} {c : Cls} {a : Addr} {bs : List Addr} {t ds Q Ex} (h : sp_Book c t ds Q Ex) : rd_Book___init__ K c (finM a Q) (startM 2 (.tr (a :: bs) t) ds) (errM a Ex) := by
  obtain ⟨rfl, m, rfl, h⟩ := h
  refine ⟨_, _, _, rfl, by simp, by simp, by decide, ?_⟩
  exact ⟨_, _, _, rfl, by decide, by decide, by decide, fun cs => ⟨_, _, rfl, h⟩⟩
theorem nmD_str {d : D} (h : nmD d = true) : ∃ x, d = .str x ∧ x.length ≤ 8 := by
  cases d with
  | str x =>
    refine ⟨x, rfl, ?_⟩
    have e : nmD (.str x) = (decide (1 ≤ x.length) && (decide (x.length ≤ 8) && x.cps.toList.all lowB)) := rfl
    rw [e] at h
    simp at h
    exact h.2.1
  | _ => cases h
theorem mkB_int {m : Int} {d : D} (h : mkB m d = true) : ∃ i, d = .int i := by
  cases d with
  | int x => exact ⟨x, rfl⟩
  | _ => cases h
theorem hasP {ps : List P2} {p : P2} : hasL (ps.map pkK) (pkK p) = decide (p ∈ ps) := by
  by_cases h : p ∈ ps
  · rw [decide_eq_true h, hasL_iff]; exact List.mem_map.mpr ⟨p, h, rfl⟩
  · rw [decide_eq_false h]
    cases q : hasL (ps.map pkK) (pkK p) with
    | false => rfl
    | true =>
      obtain ⟨r, hr, e⟩ := List.mem_map.mp (hasL_iff.mp q)
      exact absurd (pkK_inj e ▸ hr) h
theorem look_bk (m : Int) (ks : List (List Key)) (us : List T) : lookT bkF [.leaf (.int m), .dit ks us] ("marks" : Str) = some (.dit ks us) := by
  unfold bkF lookT
  rw [if_neg (by decide)]
  unfold lookT
  rw [if_pos rfl]
theorem look_bk1 (m : Int) (ks : List (List Key)) (us : List T) : lookT bkF [.leaf (.int m), .dit ks us] ("most" : Str) = some (.leaf (.int m)) := by
  unfold bkF lookT
  rw [if_pos rfl]
theorem set_bk (m : Int) (t t' : T) : setT' bkF [.leaf (.int m), t] ("marks" : Str) t' = [.leaf (.int m), t'] := by
  unfold bkF setT'
  rw [if_neg (by decide)]
  unfold setT'
  rw [if_pos rfl]
theorem drop_pk {ps : List P2} {p : P2} : dropL (ps.map pkK) (pkK p) = (dropQ ps p).map pkK := by
  unfold dropL dropQ
  rw [List.filter_map]
  congr 1
  refine List.filter_congr fun q _ => ?_
  simp only [Function.comp]
  by_cases e : q = p
  · simp [e]
  · have : pkK q ≠ pkK p := fun z => e (pkK_inj z)
    simp [e, this]
theorem drop_map {α β : Type} (f : α → β) (k : List Key) : ∀ (ks : List (List Key)) (xs : List α), dropLX ks (xs.map f) k = (dropLX ks xs k).map f
  | [], _ => by unfold dropLX; rfl
  | _ :: _, [] => by unfold dropLX; rfl
  | k' :: ks, x :: xs => by
    rw [List.map_cons]
    unfold dropLX
    rw [drop_map f k ks xs]
    split <;> rfl
theorem look_some {α : Type} {k : List Key} : ∀ {ks : List (List Key)} {xs : List α}, ks.length = xs.length → k ∈ ks → ∃ x, lookL ks xs k = some x
  | [], _, _, h => by cases h
  | _ :: _, [], h, _ => by cases h
  | k' :: ks, x :: xs, hl, h => by
    unfold lookL
    by_cases e : k' = k
    · exact ⟨x, by rw [if_pos e]⟩
    · rw [if_neg e]
      exact look_some (by simpa using hl) (by rcases List.mem_cons.mp h with q | q; exact absurd q.symm e; exact q)
theorem look_map {α β : Type} (f : α → β) (k : List Key) : ∀ (ks : List (List Key)) (xs : List α), lookL ks (xs.map f) k = (lookL ks xs k).map f
  | [], _ => by unfold lookL; rfl
  | _ :: _, [] => by unfold lookL; rfl
  | k' :: ks, x :: xs => by
    rw [List.map_cons]
    unfold lookL
    rw [look_map f k ks xs]
    split <;> rfl
theorem r_Book_put {K : PySem.W.Frag} {c : Cls} {a : Addr} {bs : List Addr} {t ds Q Ex} (h : sp_Book_put c t ds Q Ex) : rd_Book_put K c (finM a Q) (startM 4 (.tr (a :: bs) t) ds) (errM a Ex) := by
  obtain ⟨m, ps, vs, w, hd, k, rfl, rfl, tw, th, tk, hl, hn, h⟩ := h
  have two : (2 : Nat) ≤ sizeLine := by decide
  -- the end
  have last : nmD w = true → nmD hd = true → rd_Book_put_1 K c (finM a Q) [.tr (a :: bs) (bkT c.Book m ps vs), .pu w, .pu hd, .pu k] (errM a Ex) := by
    intro n1 n2
    rw [n1, n2, Bool.true_and, if_pos rfl] at h
    refine ⟨_, _, _, _, rfl, look_bk1 _ _ _, k, m, rfl, tk, ?_⟩
    show if (!mkB m k) = true then _ else _
    by_cases km : mkB m k = true
    · rw [if_pos km] at h
      rw [if_neg (by simp [km])]
      obtain ⟨x, rfl, hx⟩ := nmD_str n1
      obtain ⟨y, rfl, hy⟩ := nmD_str n2
      obtain ⟨i, rfl⟩ := mkB_int km
      have h := h x y i rfl rfl rfl
      refine ⟨two, [.inr x, .inr y], _, _, _, _, _, rfl, rfl, look_bk _ _ _, ?_⟩
      show if hasL (ps.map pkK) (pkK (x, y)) = true then _ else _
      rw [hasP]
      by_cases hm : (x, y) ∈ ps
      · rw [if_pos hm] at h
        rw [if_pos (decide_eq_true hm)]
        exact ⟨Nat.succ_le_of_lt (by decide), _, _, rfl, h⟩
      · rw [if_neg hm] at h
        rw [if_neg (by simpa using hm)]
        refine ⟨.inr x, .inr y, _, _, _, _, vs.map D.int, rfl, rfl, rfl, look_bk _ _ _, by rw [List.length_map]; have := sl1; omega, _, _, rfl, ?_⟩
        have e1 : hasL (ps.map pkK) [.inr x, .inr y] = false := by
          rw [show ([Sum.inr x, Sum.inr y] : List Key) = pkK (x, y) from rfl, hasP]; exact decide_eq_false hm
        rw [set_bk]
        unfold putL putLX
        rw [if_neg (by simp [e1]), if_neg (by simp [e1])]
        have e2 : (T.ob c.Book bkF [.leaf (.int m), .dit (ps.map pkK ++ [[.inr x, .inr y]]) ((vs.map D.int ++ [D.int i]).map .leaf)]) = bkT c.Book m (ps ++ [(x, y)]) (vs ++ [i]) := by
          unfold bkT
          simp only [List.map_append, List.map_cons, List.map_nil]; rfl
        rw [e2]
        exact h
    · rw [if_neg km] at h
      rw [if_pos (by simpa using km)]
      exact ⟨Nat.succ_le_of_lt (by decide), _, _, rfl, h⟩
  refine ⟨w, rfl, tw, ?_⟩
  show if (!nmD w) = true then _ else _
  cases n1 : nmD w with
  | false =>
    rw [n1, Bool.false_and, if_neg (by decide)] at h
    exact ⟨Nat.succ_le_of_lt (by decide), _, _, rfl, h⟩
  | true =>
    refine ⟨hd, rfl, th, ?_⟩
    show if (!nmD hd) = true then _ else _
    cases n2 : nmD hd with
    | false =>
      rw [n1, n2, Bool.true_and, if_neg (by decide)] at h
      exact ⟨Nat.succ_le_of_lt (by decide), _, _, rfl, h⟩
    | true => exact last n1 n2
theorem r_Book_drop {K : PySem.W.Frag} {c : Cls} {a : Addr} {bs : List Addr} {t ds Q Ex} (h : sp_Book_drop c t ds Q Ex) : rd_Book_drop K c (finM a Q) (startM 3 (.tr (a :: bs) t) ds) (errM a Ex) := by
  obtain ⟨m, ps, vs, w, hd, rfl, rfl, tw, th, hl, nd, h⟩ := h
  have two : (2 : Nat) ≤ sizeLine := by decide
  refine ⟨w, rfl, tw, ?_⟩
  show if (!nmD w) = true then _ else _
  cases n1 : nmD w with
  | false =>
    rw [n1, Bool.false_and, if_neg (by decide)] at h
    exact ⟨Nat.succ_le_of_lt (by decide), _, _, rfl, h⟩
  | true =>
    refine ⟨hd, rfl, th, ?_⟩
    show if (!nmD hd) = true then _ else _
    cases n2 : nmD hd with
    | false =>
      rw [n1, n2, Bool.true_and, if_neg (by decide)] at h
      exact ⟨Nat.succ_le_of_lt (by decide), _, _, rfl, h⟩
    | true =>
      rw [n1, n2, Bool.true_and, if_pos rfl] at h
      obtain ⟨x, rfl, hx⟩ := nmD_str n1
      obtain ⟨y, rfl, hy⟩ := nmD_str n2
      have h := h x y rfl rfl
      rw [if_neg (by decide)]
      refine ⟨two, [.inr x, .inr y], _, _, _, _, _, rfl, rfl, look_bk _ _ _, ?_⟩
      show if (!hasL (ps.map pkK) (pkK (x, y))) = true then _ else _
      rw [hasP]
      by_cases hm : (x, y) ∈ ps
      · rw [if_pos hm] at h
        rw [if_neg (by simpa using hm)]
        obtain ⟨v, ev⟩ := look_some (ks := ps.map pkK) (xs := vs.map D.int) (k := pkK (x, y)) (by simpa using hl) (List.mem_map.mpr ⟨_, hm, rfl⟩)
        refine ⟨.inr x, .inr y, _, _, _, _, vs.map D.int, v, rfl, rfl, rfl, look_bk _ _ _, ev, ?_⟩
        rw [set_bk]
        have e2 : (T.ob c.Book bkF [.leaf (.int m), .dit (dropL (ps.map pkK) [.inr x, .inr y]) ((dropLX (ps.map pkK) (vs.map D.int) [.inr x, .inr y]).map .leaf)]) = bkT c.Book m (dropQ ps (x, y)) (dropV ps vs (x, y)) := by
          unfold bkT dropV
          rw [← drop_pk, drop_map]; rfl
        rw [e2]
        exact ⟨_, _, rfl, h⟩
      · rw [if_neg hm] at h
        rw [if_pos (by simpa using hm)]
        exact ⟨Nat.succ_le_of_lt (by decide), _, _, rfl, h⟩
theorem perm_mem_some {ps ms : List P2} {vs : List Int} (hl : ps.length = vs.length) (pm : ms.Perm ps) {p : P2} (h : p ∈ ms) : ∃ v, lookL (ps.map pkK) vs (pkK p) = some v :=
  look_some (by simpa using hl) (List.mem_map.mpr ⟨p, pm.mem_iff.mp h, rfl⟩)
theorem r_Book_rows {K : PySem.W.Frag} {c : Cls} {ds Q Ex} (h : sp_Book_rows c ds Q Ex) : rd_Book_rows K c (fin Q) (start3 1 ds) fun _ => Ex := by
  obtain ⟨m, ps, vs, rfl, hl, hn, h⟩ := h
  have two : (2 : Nat) ≤ sizeLine := by decide
  have lk : ∀ (us : List D) (d : D), lookD bkF [d, .dit (ps.map pkK) us] ("marks" : Str) = some (.dit (ps.map pkK) us) := fun us d => by
    unfold bkF lookD
    rw [if_neg (by decide)]
    unfold lookD
    rw [if_pos rfl]
  refine ⟨rfl, _, lk _ _, ps, rfl, hn, fun ms pm sm => ?_⟩
  refine compB_all pairD (rowE ps vs) (fun p hp P hP => ?_) (h ms pm sm)
  obtain ⟨v, ev⟩ := perm_mem_some hl pm hp
  refine ⟨rfl, rfl, rfl, _, lk _ _, two, pkK p, .int v, rfl, ?_, ?_⟩
  · rw [look_map, ev]; rfl
  · unfold rowE at hP
    rw [ev] at hP
    exact ⟨by show (3 : Nat) ≤ sizeLine; decide, hP⟩

theorem cmp_int {n : Nat} (a b : Int) : Cmp (n + 1) (.int a) (.int b) := by simp [Cmp]
theorem abcL : ∀ r, r < 26 → (Str.ofString "abcdefghijklmnopqrstuvwxyz").cps.toList[r]? = some (97 + r) := by decide +kernel
theorem abc_len : (Str.ofString "abcdefghijklmnopqrstuvwxyz").length = 26 := by decide +kernel
theorem str_app_len (a b : Str) : (a ++ b).length = a.length + b.length := by
  show (a.cps ++ b.cps).size = a.cps.size + b.cps.size
  exact Array.size_append
theorem str_app_list (a b : Str) : (a ++ b).cps.toList = a.cps.toList ++ b.cps.toList := by
  show (a.cps ++ b.cps).toList = a.cps.toList ++ b.cps.toList
  exact Array.toList_append
theorem emp_list : (Str.ofString "").cps.toList = [] := by decide +kernel
theorem ix_abc {i : Int} : atI (Str.ofString "abcdefghijklmnopqrstuvwxyz").cps.toList (i.fmod 26) = some (97 + (i.fmod 26).toNat) := by
  have := lfr (i := i) (m := 26) (by decide)
  have e : i.fmod 26 = (((i.fmod 26).toNat : Nat) : Int) := by omega
  rw [e, Int.toNat_natCast]
  exact atI_nat (abcL _ (by omega))
theorem r_law_stream {K : PySem.W.Frag} {c : Cls} {ds Q Ex} (h : sp_law_stream c ds Q Ex) : rd_law_stream K c (fin Q) (start3 5 ds) fun _ => Ex := by
  obtain ⟨i, m, rfl, hm, h⟩ := h
  refine ⟨Nat.zero_le _, show (2147483647 : Int) ≠ 0 by decide, ⟨by omega, by omega⟩, fun k Γ => ∃ (xs : List Int) (n : Int) (y : Slot), Γ = [.pu (.int i), .pu (.int m), .ow (xs.map .int), .pu (.int n), y] ∧ xs.length = k ∧ (∀ x ∈ xs, 0 ≤ x ∧ x < 2147483647) ∧ 0 ≤ n ∧ n < 2147483647, ⟨[], _, _, rfl, rfl, fun _ z => (by cases z), lfr (by decide)⟩, ?_, ?_⟩
  · rintro k _ hk ⟨xs, n, y, rfl, hl, hx, n0, n1⟩
    have := lfr (i := n * 48271 + 12345) (m := 2147483647) (by decide)
    refine ⟨.inr (.inl (bln_le (by decide))), show (2147483647 : Int) ≠ 0 by decide, ⟨_, rfl⟩, by rw [List.length_map]; have := sl1; omega, xs ++ [(n * 48271 + 12345).fmod 2147483647], _, _, by rw [List.map_append]; rfl, by simp [hl], fun x hm => ?_, this⟩
    rcases List.mem_append.mp hm with hm | hm
    · exact hx x hm
    · simp only [List.mem_singleton] at hm; subst hm; exact this
  · rintro _ ⟨xs, n, y, rfl, hl, hx, _⟩
    exact h xs (by rw [hl]; simp) hx
theorem cat_one (f : Nat → Nat) : ∀ l : List Nat, (catS (l.map fun j => (⟨#[f j]⟩ : Str))).cps.toList = l.map f ∧ sumL (l.map fun j => (⟨#[f j]⟩ : Str)) = l.length
  | [] => ⟨rfl, rfl⟩
  | a :: l => by
    obtain ⟨h1, h2⟩ := cat_one f l
    rw [List.map_cons]
    unfold catS sumL
    rw [str_app_list, h1, h2]
    exact ⟨rfl, Nat.add_comm _ _⟩
def bsV (n : Int) (j : Nat) : Int := (((n.fdiv 192).fdiv ((j : Int) + 1)) + 5 * (j : Int) * (j : Int)).fmod 26
def fcV (n : Int) : Int := 1 + ((n.fdiv 64).fmod 3) * 2
def cdV (n at_ : Int) (k j : Nat) : Nat := 97 + ((bsV n j + fcV n * (k : Int) * (if deq (.int (j : Int)) (.int at_) = true then 1 else 0)).fmod 26).toNat
theorem r_law_names {K : PySem.W.Frag} {c : Cls} {ds Q Ex} (h : sp_law_names c ds Q Ex) : rd_law_names K c (fin Q) (start3 10 ds) fun _ => Ex := by
  obtain ⟨n, m, rfl, hm, h⟩ := h
  have line : (1000 : Nat) ≤ sizeLine := by decide
  let L : Str := Str.ofString "abcdefghijklmnopqrstuvwxyz"
  have hsz := lfr (i := n) (m := 8) (by decide)
  show (8 : Int) ≠ 0 ∧ _
  refine ⟨by decide, ?_⟩
  obtain ⟨sz, esz, hs1⟩ := fmod_nat (i := n) (n := 8) (by decide)
  have esz' : n.fmod 8 = (sz : Int) := esz
  change rd_law_names_2 K c (fin Q) [.pu (.int n), .pu (.int m), .pu (.str L), .pu (.int (1 + n.fmod 8)), .no, .no, .no, .no, .no, .no] fun _ => Ex
  rw [esz']
  refine ⟨⟨by decide, Nat.le_trans (bln_le (k := 5) (by decide)) (by decide)⟩, by omega, ?_⟩
  obtain ⟨at_, eat, hat⟩ := fmod_nat (i := n.fdiv 8) (n := 1 + sz) (by omega)
  change rd_law_names_3 K c (fin Q) [.pu (.int n), .pu (.int m), .pu (.str L), .pu (.int (1 + sz)), .pu (.int ((n.fdiv 8).fmod (1 + sz))), .no, .no, .no, .no, .no] fun _ => Ex
  rw [show (n.fdiv 8).fmod (1 + (sz : Int)) = (at_ : Int) by rw [← eat]; rfl]
  have bs8 : ∀ (P : List D → Prop), P ((List.range 8).map fun j => .int (bsV n j)) → compR (oneR (hName 0) cYes (cB gMod (cB gAdd (cB gDiv (cB gDiv (cV 1) (cC (.int 192))) (cB gAdd (cV 0) (cC (.int 1)))) (cB gMul (cB gMul (cC (.int 5)) (cV 0)) (cV 0))) (cC (.int 26))) [.no, .pu (.int n)]) ((List.range 8).map fun (k : Nat) => .int (0 + k)) P := by
    intro P hP
    refine compB_all (fun (k : Nat) => D.int (0 + k)) (fun j => .int (bsV n j)) (fun j hj P hp => ?_) hP
    have hj8 := List.mem_range.mp hj
    refine ⟨⟨by decide, Nat.le_trans (bln_le (k := 8) (by decide)) (by decide)⟩, ⟨by omega, Nat.le_trans (bln_le (k := 8) (by omega)) (by decide)⟩, .inr (.inl (bln_le (by omega))), .inr (.inl (bln_le (by omega))), by show (26 : Int) ≠ 0; decide, ?_⟩
    rw [Int.zero_add]
    exact hp
  refine ⟨⟨by decide, by decide⟩, by show (8 : Nat) ≤ sizeLine; decide, ?_⟩
  refine bs8 _ ?_
  change rd_law_names_4 K c (fin Q) [.pu (.int n), .pu (.int m), .pu (.str L), .pu (.int (1 + sz)), .pu (.int at_), .pu (.lst ((List.range 8).map fun j => .int (bsV n j))), .no, .no, .no, .no] fun _ => Ex
  refine ⟨Nat.zero_le _, ?_⟩
  have get8 : ∀ j, j < 8 → ((List.range 8).map fun j => D.int (bsV n j))[j]? = some (.int (bsV n j)) := fun j hj => by simp [hj]
  let B : Bool := deq (.int ((n.fdiv 24).fmod 5)) (.int 1)
  let nmC : Nat → List Nat := fun k => if B = true then (List.range (k + 1)).map (fun j => 97 + (bsV n j).toNat) else (List.range (1 + sz)).map (cdV n at_ k)
  let INV : Nat → G2 → Prop := fun k Γ => ∃ (xs : List Str) (x1 x2 x3 : Slot), xs.length = k ∧ (∀ i x, xs[i]? = some x → x.cps.toList = nmC i) ∧ Γ = [.pu (.int n), .pu (.int m), .pu (.str L), .pu (.int (1 + sz)), .pu (.int at_), .pu (.lst ((List.range 8).map fun j => .int (bsV n j))), .ow (xs.map .str), x1, x2, x3]
  refine ⟨⟨by omega, by omega⟩, INV, ⟨[], _, _, _, rfl, fun _ _ z => (by simp at z), rfl⟩, ?_, ?_⟩
  · rintro k _ hk ⟨xs, x1, x2, x3, hxs, hx, rfl⟩
    have hk8 : k < 8 := by omega
    show rd_law_names_b1 K c _ [.pu (.int n), .pu (.int m), .pu (.str L), .pu (.int (1 + sz)), .pu (.int at_), .pu (.lst ((List.range 8).map fun j => .int (bsV n j))), .ow (xs.map .str), .pu (.int (0 + (k : Int))), x2, x3] _
    rw [Int.zero_add]
    refine ⟨⟨by omega, by omega⟩, fun j Γ => ∃ nm x3, Str.length nm = j ∧ nm.cps.toList = (List.range j).map (cdV n at_ k) ∧ Γ = [.pu (.int n), .pu (.int m), .pu (.str L), .pu (.int (1 + sz)), .pu (.int at_), .pu (.lst ((List.range 8).map fun j => .int (bsV n j))), .ow (xs.map .str), .pu (.int k), .pu (.str nm), x3], ⟨Str.ofString "", _, by decide +kernel, emp_list, rfl⟩, ?_, ?_⟩
    · rintro j _ hj ⟨nm, y3, hl, hnm, rfl⟩
      have hj8 : j < 8 := by omega
      show rd_law_names_b2 K c _ [.pu (.int n), .pu (.int m), .pu (.str L), .pu (.int (1 + sz)), .pu (.int at_), .pu (.lst ((List.range 8).map fun j => .int (bsV n j))), .ow (xs.map .str), .pu (.int k), .pu (.str nm), .pu (.int (0 + (j : Int)))] _
      rw [Int.zero_add]
      have f3 := lfr (i := n.fdiv 64) (m := 3) (by decide)
      unfold rd_law_names_b2
      dsimp only [cSeq, cNext, cC, cV, cB, cT, cAnd, cOr, cNot, cAndV, cOrV, cNotV, cIf, cNil, cCons, cTup, fLst, cOf, cDrop, cRet, cRetN, cIfS, cSet, cSetF, hName, hNil, hCons, hTup, cAsg, cPar, cCall, cU, cCB, gNeg, gAdd, gSub, gMul, gDiv, gMod, gPow, gLt, gLe, gGt, gGe, gIs, gIsN, gEq, gNe, gIx, wI, wI0, u_abs, u_len, u_max, u_min, cRaise, cTry, cTryA, cIsi, cIsx, List.length, List.set_cons_zero, List.set_cons_succ, List.getElem?_cons_zero, List.getElem?_cons_succ, isNon, fCB, n_list, u_tuple, oNo, oIs, fSl, fRev, cPeek, cPeekT, cIxO, cOw, w_append, w_insert, fCat, gIn, cChain, cCallN, u_int, n_sorted, i_enumerate, cIsv, cIst, iL, cForI, frzG, frzS, cYes, List.map, List.append, List.cons_append, List.nil_append]
      refine ⟨_, atI_nat (get8 j hj8), ?_⟩
      refine ⟨⟨by decide, Nat.le_trans (bln_le (k := 8) (by decide)) (by decide)⟩, by decide, .inr (.inl (bln_le (by decide))), .inr (.inl (bln_le (by omega))), cmp_int _ _, ?_⟩
      dsimp only [cSeq, cNext, cC, cV, cB, cT, cAnd, cOr, cNot, cAndV, cOrV, cNotV, cIf, cNil, cCons, cTup, fLst, cOf, cDrop, cRet, cRetN, cIfS, cSet, cSetF, hName, hNil, hCons, hTup, cAsg, cPar, cCall, cU, cCB, gNeg, gAdd, gSub, gMul, gDiv, gMod, gPow, gLt, gLe, gGt, gGe, gIs, gIsN, gEq, gNe, gIx, wI, wI0, u_abs, u_len, u_max, u_min, cRaise, cTry, cTryA, cIsi, cIsx, List.length, List.set_cons_zero, List.set_cons_succ, List.getElem?_cons_zero, List.getElem?_cons_succ, isNon, fCB, n_list, u_tuple, oNo, oIs, fSl, fRev, cPeek, cPeekT, cIxO, cOw, w_append, w_insert, fCat, gIn, cChain, cCallN, u_int, n_sorted, i_enumerate, cIsv, cIst, iL, cForI, frzG, frzS, cYes, List.map, List.append, List.cons_append, List.nil_append]
      have hb1 : bln (if deq (.int (j : Int)) (.int (at_ : Int)) = true then 1 else 0) ≤ 64 := by split <;> exact Nat.le_trans (bln_le (k := 1) (by decide)) (by decide)
      refine ⟨.inr (.inl hb1), by show (26 : Int) ≠ 0; decide, _, by show L.length ≤ sizeLine; rw [show L.length = 26 from abc_len]; omega, ix_abc, ?_⟩
      refine ⟨by show nm.length + 1 ≤ sizeLine; omega, _, _, ?_, ?_, rfl⟩
      · rw [str_app_len, hl]; rfl
      · rw [str_app_list, hnm, List.range_succ, List.map_append]; rfl
    · rintro _ ⟨nm, y3, hl, hnm, rfl⟩
      have ej : ((1 : Int) + sz).toNat = 1 + sz := by omega
      rw [ej] at hl hnm
      have last : ∀ (D : End2) (nm' : Str), D.nx = INV (k + 1) → nm'.cps.toList = nmC k → rd_law_names_b1_3 K c D
          [.pu (.int n), .pu (.int m), .pu (.str L), .pu (.int (1 + sz)), .pu (.int at_), .pu (.lst ((List.range 8).map fun j => .int (bsV n j))), .ow (xs.map .str), .pu (.int k), .pu (.str nm'), y3] fun _ => Ex := by
        intro D nm' eD hn'
        refine ⟨⟨_, rfl⟩, by rw [List.length_map]; omega, ?_⟩
        rw [eD]
        refine ⟨xs ++ [nm'], _, _, _, by simp [hxs], fun i x hi => ?_, by rw [List.map_append]; rfl⟩
        by_cases hik : i < xs.length
        · rw [List.getElem?_append_left hik] at hi; exact hx i x hi
        · rw [List.getElem?_append_right (by omega)] at hi
          cases hz : i - xs.length with
          | zero =>
            rw [hz] at hi; cases hi
            rw [show i = k by omega]; exact hn'
          | succ q => rw [hz] at hi; simp at hi
      dsimp only
      unfold rd_law_names_b1_2
      dsimp only [cSeq, cNext, cC, cV, cB, cT, cAnd, cOr, cNot, cAndV, cOrV, cNotV, cIf, cNil, cCons, cTup, fLst, cOf, cDrop, cRet, cRetN, cIfS, cSet, cSetF, hName, hNil, hCons, hTup, cAsg, cPar, cCall, cU, cCB, gNeg, gAdd, gSub, gMul, gDiv, gMod, gPow, gLt, gLe, gGt, gGe, gIs, gIsN, gEq, gNe, gIx, wI, wI0, u_abs, u_len, u_max, u_min, cRaise, cTry, cTryA, cIsi, cIsx, List.length, List.set_cons_zero, List.set_cons_succ, List.getElem?_cons_zero, List.getElem?_cons_succ, isNon, fCB, n_list, u_tuple, oNo, oIs, fSl, fRev, cPeek, cPeekT, cIxO, cOw, w_append, w_insert, fCat, gIn, cChain, cCallN, u_int, n_sorted, i_enumerate, cIsv, cIst, iL, cForI, frzG, frzS, cYes, List.map, List.append, List.cons_append, List.nil_append]
      refine ⟨⟨by decide, Nat.le_trans (bln_le (k := 8) (by decide)) (by decide)⟩, by show (5 : Int) ≠ 0; decide, cmp_int _ _, ?_⟩
      show if B = true then _ else _
      cases hB : B with
      | false =>
        rw [if_neg (by decide)]
        refine last _ nm rfl ?_
        show nm.cps.toList = if B = true then _ else _
        rw [hB, if_neg (by decide)]; exact hnm
      | true =>
        rw [if_pos rfl, if_pos (by simp; omega)]
        have ec : cutD ((List.range 8).map fun j => D.int (bsV n j)) none (some ((k : Int) + 1)) = (List.range (k + 1)).map fun j => D.int (bsV n j) := by
          unfold cutD HT.sIx
          simp only [List.length_map, List.length_range, List.drop_zero]
          rw [if_neg (by omega)]
          rw [← List.map_take, List.take_range]
          congr 2
          omega
        show compR _ (cutD ((List.range 8).map fun j => D.int (bsV n j)) none (some ((k : Int) + 1))) _
        rw [ec]
        refine compB_all (fun j => D.int (bsV n j)) (fun j => .str ⟨#[97 + (bsV n j).toNat]⟩) (fun j hj P hp => ?_) ?_
        · exact ⟨_, by show L.length ≤ sizeLine; rw [show L.length = 26 from abc_len]; omega, ix_abc, hp⟩
        · obtain ⟨c1, c2⟩ := cat_one (fun j => 97 + (bsV n j).toNat) (List.range (k + 1))
          refine ⟨(List.range (k + 1)).map fun j => (⟨#[97 + (bsV n j).toNat]⟩ : Str), by rw [List.map_map]; rfl, by rw [c2, List.length_range]; omega, ?_⟩
          refine last _ _ rfl ?_
          rw [c1]
          show _ = if B = true then _ else _
          rw [hB, if_pos rfl]
  · rintro _ ⟨xs, x1, x2, x3, hxs, hx, rfl⟩
    have em : (m : Int).toNat = m := by omega
    rw [em] at hxs
    have f3 := lfr (i := n.fdiv 64) (m := 3) (by decide)
    have low : ∀ i : Int, lowB (97 + (i.fmod 26).toNat) = true := fun i => by
      have := lfr (i := i) (m := 26) (by decide)
      unfold lowB; simp; omega
    have len : ∀ i x, xs[i]? = some x → x.length = if B = true then i + 1 else 1 + sz := fun i x hi => by
      have e := congrArg List.length (hx i x hi)
      rw [Array.length_toList] at e
      show x.cps.size = _
      rw [e]
      show (if B = true then _ else _ : List Nat).length = _
      cases B <;> simp
    have lt : ∀ i x, xs[i]? = some x → i < m := fun i x hi => by have := (List.getElem?_eq_some_iff.mp hi).1; omega
    refine h xs hxs (fun x hm' => ?_) ?_ ?_
    · obtain ⟨i, hi, rfl⟩ := List.getElem_of_mem hm'
      have e0 := List.getElem?_eq_getElem hi
      have e1 := len i _ e0
      have e2 := hx i _ e0
      have e3 := lt i _ e0
      have l8 : 1 ≤ xs[i].length ∧ xs[i].length ≤ 8 := by rw [e1]; split <;> omega
      unfold nmS
      rw [e2]
      simp only [l8.1, l8.2, decide_true, Bool.true_and]
      rw [List.all_eq_true]
      intro y hy
      change y ∈ (if B = true then _ else _ : List Nat) at hy
      cases hB : B with
      | true =>
        rw [hB, if_pos rfl] at hy
        obtain ⟨j, _, rfl⟩ := List.mem_map.mp hy
        exact low _
      | false =>
        rw [hB, if_neg (by decide)] at hy
        obtain ⟨j, _, rfl⟩ := List.mem_map.mp hy
        exact low _
    · refine List.pairwise_iff_getElem.mpr fun i j hi hj hij e => ?_
      have ei := List.getElem?_eq_getElem hi
      have ej := List.getElem?_eq_getElem hj
      have li := len i _ ei
      have lj := len j _ ej
      have xi := hx i _ ei
      have xj := hx j _ ej
      rw [e] at li xi
      cases hB : B with
      | true => rw [hB, if_pos rfl] at li lj; omega
      | false =>
        have z := xi.symm.trans xj
        change (if B = true then _ else _ : List Nat) = (if B = true then _ else _ : List Nat) at z
        rw [hB, if_neg (by decide), if_neg (by decide)] at z
        have z2 := congrArg (fun l => l[at_]?) z
        simp only [List.getElem?_map, List.getElem?_range hat, Option.map_some, Option.some.injEq] at z2
        unfold cdV fcV at z2
        rw [deq_refl, if_pos rfl] at z2
        have m1 := lfr (i := bsV n at_ + (1 + (n.fdiv 64).fmod 3 * 2) * (i : Int) * 1) (m := 26) (by decide)
        have m2 := lfr (i := bsV n at_ + (1 + (n.fdiv 64).fmod 3 * 2) * (j : Int) * 1) (m := 26) (by decide)
        have hj8 := lt j _ ej
        rcases (show (n.fdiv 64).fmod 3 = 0 ∨ (n.fdiv 64).fmod 3 = 1 ∨ (n.fdiv 64).fmod 3 = 2 by omega) with q | q | q <;> rw [q] at z2 m1 m2 <;> simp only [Int.fmod_eq_emod_of_nonneg _ (show (0 : Int) ≤ 26 by decide)] at z2 m1 m2 <;> omega
    · refine List.pairwise_iff_getElem.mpr fun i j hi hj hij => ?_
      rw [len i _ (List.getElem?_eq_getElem hi), len j _ (List.getElem?_eq_getElem hj)]
      split <;> omega

theorem nm_len {x : Str} (h : nmS x = true) : 1 ≤ x.length ∧ x.length ≤ 8 ∧ ∀ y ∈ x.cps.toList, lowB y = true := by
  unfold nmS at h
  simp only [Bool.and_eq_true, decide_eq_true_eq] at h
  exact ⟨h.1, h.2.1, List.all_eq_true.mp h.2.2⟩
theorem nm_bad {x : Str} {y : Nat} (h : y ∈ x.cps.toList) (hb : lowB y = false) : nmS x = false := by
  cases e : nmS x with
  | false => rfl
  | true => rw [(nm_len e).2.2 y h] at hb; cases hb
theorem tak_len (x : Str) (b : Nat) : (takS x b).length ≤ x.length ∧ (takS x b).length ≤ b := by
  unfold takS Str.length
  simp
  omega
theorem drp_len (x : Str) (b : Nat) : (drpS x b).length ≤ x.length := by
  unfold drpS Str.length
  simp
theorem ty_str {x : Str} (h : x.length ≤ sizeLine) : tyOk (.str x) := ⟨rfl, fun y e => by cases e; exact h⟩
theorem ty_of {d : D} (h : (tyD d).isSome = true) (hs : ∀ x, d ≠ .str x) : tyOk d := ⟨h, fun x e => absurd e (hs x)⟩
theorem r_law_odd_mark {K : PySem.W.Frag} {c : Cls} {ds Q Ex} (h : sp_law_odd_mark c ds Q Ex) : rd_law_odd_mark K c (fin Q) (start3 3 ds) fun _ => Ex := by
  obtain ⟨i, m, rfl, hi, h⟩ := h
  have d9 : (9 : Int) ≠ 0 := by decide
  have m9 := lfr (i := i.fdiv 9) (m := 10 ^ 9) (by decide)
  have p9 : 0 ≤ i.fdiv 9 := by rw [Int.fdiv_eq_ediv_of_nonneg _ (by decide)]; omega
  refine ⟨⟨by decide, Nat.le_trans (bln_le (k := 8) (by decide)) (by decide)⟩, show CPow 10 9 from ⟨by decide, by decide, by decide⟩, show (10 ^ 9 : Int) ≠ 0 by decide, ⟨by decide, Nat.le_trans (bln_le (k := 8) (by decide)) (by decide)⟩, by show (1 : Nat) ≤ sizeLine; decide, by show (9 : Nat) ≤ sizeLine; decide, d9, ?_⟩
  obtain ⟨t, et, ht⟩ := fmod_nat (i := i) (n := 9) (by decide)
  have et' : i.fmod 9 = (t : Int) := et
  show ∃ d, atI _ (i.fmod 9) = some d ∧ _
  rw [et']
  rcases (show t = 0 ∨ t = 1 ∨ t = 2 ∨ t = 3 ∨ t = 4 ∨ t = 5 ∨ t = 6 ∨ t = 7 ∨ t = 8 by omega) with rfl | rfl | rfl | rfl | rfl | rfl | rfl | rfl | rfl
  · exact ⟨_, atI_nat (j := 0) rfl, h _ (ty_of rfl fun _ z => by cases z) (by unfold mkB; simp)⟩
  · exact ⟨_, atI_nat (j := 1) rfl, h _ (ty_of rfl fun _ z => by cases z) (by unfold mkB; simp; omega)⟩
  · exact ⟨_, atI_nat (j := 2) rfl, h _ (ty_of rfl fun _ z => by cases z) (by
      show (decide (0 ≤ m + 2 + (i.fdiv 9).fmod (10 ^ 9)) && decide (m + 2 + (i.fdiv 9).fmod (10 ^ 9) ≤ m)) = false
      rw [Bool.and_eq_false_iff]; exact .inr (decide_eq_false (by omega)))⟩
  · exact ⟨_, atI_nat (j := 3) rfl, h _ (ty_of rfl fun _ z => by cases z) (by
      show (decide (0 ≤ -1 - i.fdiv 9) && decide (-1 - i.fdiv 9 ≤ m)) = false
      rw [decide_eq_false (by omega)]; rfl)⟩
  · exact ⟨_, atI_nat (j := 4) rfl, h _ (ty_of rfl fun _ z => by cases z) rfl⟩
  · exact ⟨_, atI_nat (j := 5) rfl, h _ (ty_of rfl fun _ z => by cases z) rfl⟩
  · exact ⟨_, atI_nat (j := 6) rfl, h _ (ty_str (by decide +kernel)) rfl⟩
  · exact ⟨_, atI_nat (j := 7) rfl, h _ (ty_of rfl fun _ z => by cases z) rfl⟩
  · exact ⟨_, atI_nat (j := 8) rfl, h _ (ty_of rfl fun _ z => by cases z) rfl⟩
theorem mem_app1 {a b e : Str} {y : Nat} (h : y ∈ b.cps.toList) : y ∈ (a ++ b ++ e).cps.toList := by
  rw [str_app_list, str_app_list]; simp [h]
theorem mem_app2 {a b : Str} {y : Nat} (h : y ∈ b.cps.toList) : y ∈ (a ++ b).cps.toList := by
  rw [str_app_list]; simp [h]
theorem r_law_odd_name {K : PySem.W.Frag} {c : Cls} {ds Q Ex} (h : sp_law_odd_name c ds Q Ex) : rd_law_odd_name K c (fin Q) (start3 5 ds) fun _ => Ex := by
  obtain ⟨x, i, rfl, hx, hi, h⟩ := h
  have line : (1000 : Nat) ≤ sizeLine := by decide
  obtain ⟨x1, x8, xl⟩ := nm_len hx
  obtain ⟨at_, eat, hat⟩ := fmod_nat (i := i.fdiv 13) (n := x.length + 1) (by omega)
  have lx : x.length ≤ sizeLine := by omega
  refine ⟨⟨by decide, Nat.le_trans (bln_le (k := 8) (by decide)) (by decide)⟩, lx, by show ((x.length : Int) + 1) ≠ 0; omega, ?_⟩
  change rd_law_odd_name_1 K c (fin Q) [.pu (.str x), .pu (.int i), .pu (.int ((i.fdiv 13).fmod ((x.length : Int) + 1))), .no, .no] fun _ => Ex
  rw [show (i.fdiv 13).fmod ((x.length : Int) + 1) = (at_ : Int) from eat]
  refine ⟨lx, .inl ⟨7, rfl, rfl, ?_⟩⟩
  change rd_law_odd_name_2 K c (fin Q) [.pu (.str x), .pu (.int i), .pu (.int at_), .pu (.str (takS x 7)), .no] fun _ => Ex
  have c7 := tak_len x 7
  have l1 : ∀ w : String, (Str.ofString w).length = 1 → (takS (takS x 7) at_).length + (Str.ofString w).length ≤ sizeLine ∧ (takS (takS x 7) at_ ++ Str.ofString w).length + (drpS (takS x 7) at_).length ≤ sizeLine ∧ (takS (takS x 7) at_ ++ Str.ofString w ++ drpS (takS x 7) at_).length ≤ sizeLine := fun w hw => by
    have a1 := tak_len (takS x 7) at_
    have a2 := drp_len (takS x 7) at_
    simp only [str_app_len, hw]
    omega
  have lc : (takS x 7).length ≤ sizeLine := by omega
  have tA := tak_len x at_
  have wA : (Str.ofString "A").length = 1 := by decide +kernel
  obtain ⟨b1, b2, b3⟩ := l1 "1" (by decide +kernel)
  obtain ⟨c1, c2, c3⟩ := l1 " " (by decide +kernel)
  obtain ⟨d1, d2, d3⟩ := l1 "-" (by decide +kernel)
  obtain ⟨e1, e2, e3⟩ := l1 "_" (by decide +kernel)
  have hA : (takS x at_).length + (Str.ofString "A").length ≤ sizeLine := by omega
  obtain ⟨u, eu, u1, u2⟩ : ∃ u : Nat, takS x 1 = ⟨#[u]⟩ ∧ 97 ≤ u ∧ u ≤ 122 := by
    cases hq : x.cps.toList with
    | nil =>
      have : x.length = 0 := by unfold Str.length; rw [← Array.length_toList, hq]; rfl
      omega
    | cons a l =>
      have := xl a (by rw [hq]; exact List.mem_cons_self)
      unfold lowB at this
      simp at this
      exact ⟨a, by unfold takS; rw [hq]; rfl, this.1, this.2⟩
  refine ⟨lx, .inl ⟨at_, rfl, rfl, hA, lc, .inl ⟨at_, rfl, rfl, b1, lc, .inr ⟨at_, rfl, rfl, b2, lc, .inl ⟨at_, rfl, rfl, c1, lc, .inr ⟨at_, rfl, rfl, c2, by show (8 : Nat) ≤ sizeLine; decide, ?_⟩⟩⟩⟩⟩⟩
  refine ⟨by show (1 : Nat) ≤ sizeLine; decide, lx, .inl ⟨1, rfl, rfl, u, eu, u1, u2, lc, .inl ⟨at_, rfl, rfl, d1, lc, .inr ⟨at_, rfl, rfl, d2, lc, .inl ⟨at_, rfl, rfl, e1, lc, .inr ⟨at_, rfl, rfl, e2, by show (4 : Nat) ≤ sizeLine; decide, by show (12 : Nat) ≤ sizeLine; decide, ?_⟩⟩⟩⟩⟩⟩
  obtain ⟨t, et, ht⟩ := fmod_nat (i := i) (n := 12) (by decide)
  have et' : i.fmod 12 = (t : Int) := et
  refine ⟨by show (12 : Int) ≠ 0; decide, ?_⟩
  show ∃ d, atI _ (i.fmod 12) = some d ∧ _
  rw [et']
  have bad : ∀ (w : String) (y : Nat), y ∈ (Str.ofString w).cps.toList → lowB y = false → nmD (.str (takS (takS x 7) at_ ++ Str.ofString w ++ drpS (takS x 7) at_)) = false := fun w y hy hb => nm_bad (mem_app1 hy) hb
  rcases (show t = 0 ∨ t = 1 ∨ t = 2 ∨ t = 3 ∨ t = 4 ∨ t = 5 ∨ t = 6 ∨ t = 7 ∨ t = 8 ∨ t = 9 ∨ t = 10 ∨ t = 11 by omega) with rfl | rfl | rfl | rfl | rfl | rfl | rfl | rfl | rfl | rfl | rfl | rfl
  · exact ⟨_, atI_nat (j := 0) rfl, h _ (ty_str (by decide +kernel)) (by decide +kernel)⟩
  · exact ⟨_, atI_nat (j := 1) rfl, h _ (ty_str (by decide +kernel)) (by decide +kernel)⟩
  · exact ⟨_, atI_nat (j := 2) rfl, h _ (ty_str (by rw [str_app_len]; exact hA)) (nm_bad (y := 65) (mem_app2 (by decide +kernel)) (by decide))⟩
  · exact ⟨_, atI_nat (j := 3) rfl, h _ (ty_str b3) (bad "1" 49 (by decide +kernel) (by decide))⟩
  · exact ⟨_, atI_nat (j := 4) rfl, h _ (ty_str c3) (bad " " 32 (by decide +kernel) (by decide))⟩
  · exact ⟨_, atI_nat (j := 5) rfl, h _ (ty_of rfl fun _ z => by cases z) rfl⟩
  · exact ⟨_, atI_nat (j := 6) rfl, h _ (ty_of rfl fun _ z => by cases z) rfl⟩
  · exact ⟨_, atI_nat (j := 7) rfl, h _ (ty_of rfl fun _ z => by cases z) rfl⟩
  · exact ⟨_, atI_nat (j := 8) rfl, h _ (ty_of rfl fun _ z => by cases z) rfl⟩
  · exact ⟨_, atI_nat (j := 9) rfl, h _ (ty_str (by show (1 : Nat) ≤ sizeLine; decide)) (nm_bad (y := u - 32) (by simp) (by unfold lowB; simp; omega))⟩
  · exact ⟨_, atI_nat (j := 10) rfl, h _ (ty_str d3) (bad "-" 45 (by decide +kernel) (by decide))⟩
  · exact ⟨_, atI_nat (j := 11) rfl, h _ (ty_str e3) (bad "_" 95 (by decide +kernel) (by decide))⟩

structure ErrK (K : PySem.W.Frag) (c : Cls) (C : Addr) (j : Nat) : Prop where
  ok : ExcC K C
  g : ExcG K C
  v : VE K C
  h : excSub K C c.HallError = true
  s0 : excSub K C c.NoName = decide (j = 0)
  s1 : excSub K C c.NoMark = decide (j = 1)
  s2 : excSub K C c.Twice = decide (j = 2)
  s3 : excSub K C c.Missing = decide (j = 3)
  t0 : excSub K C c.Apart = false
  t1 : excSub K C c.Few = false
  t2 : excSub K C c.NoRow = false
  t3 : excSub K C c.NoWork = false
structure ClsB (K : PySem.W.Frag) (c : Cls) : Prop where
  n0 : ErrK K c c.NoName 0
  n1 : ErrK K c c.NoMark 1
  n2 : ErrK K c c.Twice 2
  n3 : ErrK K c c.Missing 3
def toldJ (j : Nat) : D := [told "name", told "mark", told "twice", told "missing"].getD j .non
theorem bk_nof (m : Str) (h : m ∉ bkF) {i : Nat} {as : List Addr} {C : Addr} {q : Int} {ps : List P2} {vs : List Int} {Γ : G2} (e : Γ[i]? = some (.tr as (bkT C q ps vs))) : ∃ as fs ts, Γ[i]? = some (.tr as (.ob C fs ts)) ∧ m ∉ fs := ⟨_, _, _, e, h⟩
theorem put_nof : ("put" : Str) ∉ bkF := by decide
theorem drop_nof : ("drop" : Str) ∉ bkF := by decide
theorem rows_nof : ("rows" : Str) ∉ bkF := by decide
def hdl12 (K : PySem.W.Frag) (c : Cls) : TS2 := (cSeq (cSet 7 (cOf (fLst (cCons (cIsx K c.NoName (cV 6)) (cCons (cIsx K c.NoMark (cV 6)) (cCons (cIsx K c.Twice (cV 6)) (cCons (cIsx K c.Missing (cV 6)) cNil)))))))
 (cSeq (cSet 5 (cC (.str (Str.ofString "other"))))
 (cSeq (cSet 8 (cAndV (cIsv K (cV 6)) (cNotV (cIst K [c.Apart, c.Few, c.NoRow, c.NoWork] (cV 6)))))
 (cIfS (cAnd (cT (cV 8)) (cT (cB gEq (cCB u_len (cCons (cOf (fComp 1 [] (iLh (cV 7)) (hName 0) (cT (cV 0)) (cV 0))) cNil)) (cC (.int 1)))))
 (cSet 5 (cB gIx (cOf (fLst (cCons (cC (.str (Str.ofString "name"))) (cCons (cC (.str (Str.ofString "mark"))) (cCons (cC (.str (Str.ofString "twice"))) (cCons (cC (.str (Str.ofString "missing"))) cNil)))))) (cIdx (cV 7) (cC (.bl true)))))
 cNext))))
theorem handle12 {K : PySem.W.Frag} {c : Cls} {C : Addr} {j : Nat} (F : ErrK K c C j) (hj : j < 4) {D0 : End2} {t : Slot} {y w h k : D} (hQ : ∀ s7 s8, D0.nx [t, .pu y, .pu w, .pu h, .pu k, .pu (toldJ j), .no, s7, s8]) :
    hdl12 K c { nx := fun Γ' => D0.nx (Γ'.set 6 .no), rt := D0.rt, bk := fun Γ' => D0.bk (Γ'.set 6 .no), ct := fun Γ' => D0.ct (Γ'.set 6 .no) } [t, .pu y, .pu w, .pu h, .pu k, .pu (told "none"), .pu (.exc C), .no, .no] noX := by
  have four : (4 : Nat) ≤ sizeLine := by decide
  refine ⟨⟨F.ok.k, F.g⟩, ⟨F.ok.k, F.g⟩, ⟨F.ok.k, F.g⟩, ⟨F.ok.k, F.g⟩, four, ⟨F.ok.k, F.g, F.v⟩, ?_⟩
  rw [F.s0, F.s1, F.s2, F.s3]
  refine ⟨⟨F.ok.k, F.g⟩, ?_⟩
  have e : ([c.Apart, c.Few, c.NoRow, c.NoWork].any fun D => excSub K C D) = false := by simp [F.t0, F.t1, F.t2, F.t3]
  rw [e]
  rcases (show j = 0 ∨ j = 1 ∨ j = 2 ∨ j = 3 by omega) with rfl | rfl | rfl | rfl
  · refine ⟨cmp_int _ _, four, [true, false, false, false], 0, rfl, rfl, fun m hm => by omega, by decide, _, atI_nat (j := 0) rfl, hQ _ _⟩
  · refine ⟨cmp_int _ _, four, [false, true, false, false], 1, rfl, rfl, fun m hm => by (rcases (show m = 0 by omega) with rfl; rfl), by decide, _, atI_nat (j := 1) rfl, hQ _ _⟩
  · refine ⟨cmp_int _ _, four, [false, false, true, false], 2, rfl, rfl, fun m hm => by (rcases (show m = 0 ∨ m = 1 by omega) with rfl | rfl <;> rfl), by decide, _, atI_nat (j := 2) rfl, hQ _ _⟩
  · refine ⟨cmp_int _ _, four, [false, false, false, true], 3, rfl, rfl, fun m hm => by (rcases (show m = 0 ∨ m = 1 ∨ m = 2 by omega) with rfl | rfl | rfl <;> rfl), by decide, _, atI_nat (j := 3) rfl, hQ _ _⟩

theorem r_law_class {K : PySem.W.Frag} {c : Cls} {a : Addr} {bs : List Addr} {t ds Q Ex} (F : ClsB K c) (h : sp_law_class c t ds Q Ex) : rd_law_class K c (finM a Q) (startM 9 (.tr (a :: bs) t) ds) (errM a Ex) := by
  obtain ⟨m, ps, vs, y, w, hd, k, rfl, rfl, tw, th, tk, hl, nd, hn, h⟩ := h
  have e1 : rd_law_class_1 K c = cSeq (cTryA K c.HallError 6 (cIfS (cT (cB gEq (cV 1) (cC (.int 0)))) (cDrop (cMethO c.Book "put" 0 (sp_Book_put c) (cCons (cV 2) (cCons (cV 3) (cCons (cV 4) cNil))))) (cDrop (cMethO c.Book "drop" 0 (sp_Book_drop c) (cCons (cV 2) (cCons (cV 3) cNil))))) (hdl12 K c)) (rd_law_class_2 K c) := rfl
  have caught : ∀ (C : Addr) (j : Nat) (cs : List Addr), ErrK K c C j → j < 4 → Q (bkT c.Book m ps vs) (toldJ j) →
      hdl12 K c { nx := fun Γ' => rd_law_class_2 K c (finM a Q) (Γ'.set 6 .no) (errM a Ex), rt := fun _ => False, bk := fun _ => False, ct := fun _ => False } [.tr (a :: cs) (bkT c.Book m ps vs), .pu (.int y), .pu w, .pu hd, .pu k, .pu (told "none"), .pu (.exc C), .no, .no] noX :=
    fun C j cs E hj hq => handle12 (t := .tr (a :: cs) (bkT c.Book m ps vs)) (y := .int y) (w := w) (h := hd) (k := k) (D0 := { nx := fun Γ => rd_law_class_2 K c (finM a Q) Γ (errM a Ex), rt := fun _ => False }) E hj fun s7 s8 => ⟨cs, _, rfl, hq⟩
  show rd_law_class_1 K c (finM a Q) [.tr (a :: bs) (bkT c.Book m ps vs), .pu (.int y), .pu w, .pu hd, .pu k, .pu (told "none"), .no, .no, .no] (errM a Ex)
  rw [e1]
  refine ⟨cmp_int _ _, ?_⟩
  show if deq (.int y) (.int 0) = true then _ else _
  rcases h with ⟨rfl, h1, h2⟩ | ⟨rfl, h1, h3, h2⟩ | ⟨rfl, h1, h3, ⟨w', h', rfl, rfl, hm⟩, h2⟩ | ⟨rfl, h1, h2⟩
  · rw [deq_refl, if_pos rfl]
    refine ⟨bk_nof _ put_nof rfl, a, bs, _, rfl, m, ps, vs, w, hd, k, rfl, rfl, tw, th, tk, hl, hn, ?_⟩
    rw [if_neg (by simp [h1])]
    exact fun cs => ⟨_, rfl, F.n0.ok.k, F.n0.h, caught _ 0 cs F.n0 (by omega) h2⟩
  · rw [deq_refl, if_pos rfl]
    refine ⟨bk_nof _ put_nof rfl, a, bs, _, rfl, m, ps, vs, w, hd, k, rfl, rfl, tw, th, tk, hl, hn, ?_⟩
    rw [if_pos h1, if_neg (by simp [h3])]
    exact fun cs => ⟨_, rfl, F.n1.ok.k, F.n1.h, caught _ 1 cs F.n1 (by omega) h2⟩
  · rw [deq_refl, if_pos rfl]
    refine ⟨bk_nof _ put_nof rfl, a, bs, _, rfl, m, ps, vs, _, _, k, rfl, rfl, tw, th, tk, hl, hn, ?_⟩
    rw [if_pos h1, if_pos h3]
    intro w2 h2' k2 e1 e2 e3
    cases e1; cases e2
    rw [if_pos hm]
    exact fun cs => ⟨_, rfl, F.n2.ok.k, F.n2.h, caught _ 2 cs F.n2 (by omega) h2⟩
  · rw [show deq (.int 1) (.int 0) = false by simp [deq], if_neg (by decide)]
    refine ⟨bk_nof _ drop_nof rfl, a, bs, _, rfl, m, ps, vs, w, hd, rfl, rfl, tw, th, hl, nd, ?_⟩
    rcases h1 with h1 | ⟨w', h', rfl, rfl, hm⟩
    · rw [if_neg (by simp [h1])]
      exact fun cs => ⟨_, rfl, F.n3.ok.k, F.n3.h, caught _ 3 cs F.n3 (by omega) h2⟩
    · split
      · intro w2 h2' e1 e2
        cases e1; cases e2
        rw [if_neg hm]
        exact fun cs => ⟨_, rfl, F.n3.ok.k, F.n3.h, caught _ 3 cs F.n3 (by omega) h2⟩
      · exact fun cs => ⟨_, rfl, F.n3.ok.k, F.n3.h, caught _ 3 cs F.n3 (by omega) h2⟩
theorem cmp_told {n : Nat} (a b : String) : Cmp (n + 1) (told a) (told b) := by unfold told; simp [Cmp]
theorem ty_nm {x : Str} (h : nmS x = true) : tyOk (.str x) := ty_str (by have h8 := (nm_len h).2.1; have h1 : (8 : Nat) ≤ sizeLine := (by decide); omega)
theorem ty_int (i : Int) : tyOk (.int i) := ty_of rfl fun _ z => by cases z
theorem r_law_right {K : PySem.W.Frag} {c : Cls} {a : Addr} {bs : List Addr} {t ds Q Ex} (h : sp_law_right c t ds Q Ex) : rd_law_right K c (finM a Q) (startM 9 (.tr (a :: bs) t) ds) (errM a Ex) := by
  obtain ⟨m, u, v, o, x, xs, rfl, rfl, hu, hv, ho, huo, hlen, hm, hl, hx, h⟩ := h
  match xs, hl with
  | [x0, x1, x2, x3], _ =>
    have p1 := hx x1 (by simp)
    have p2 := hx x2 (by simp)
    have p3 := hx x3 (by simp)
    have bk : ([(u, v)] : List P2).length = [x].length := rfl
    have nd : ([(u, v)] : List P2).Nodup := by simp
    have l1 : ([(u, v)] : List P2).length < 1000 := by show 1 < 1000; decide
    have five : (5 : Int) ≠ 0 := by decide
    refine ⟨rfl, rfl, ?_⟩
    change rd_law_right_1 K c (finM a Q) [.tr (a :: bs) (bkT c.Book m [(u, v)] [x]), .pu (.lst [.str u, .str v, .str o]), .pu (.int m), .pu (.lst [.int x0, .int x1, .int x2, .int x3]), .pu (.str u), .pu (.str v), .pu (.str o), .no, .no] (errM a Ex)
    refine ⟨_, atI_nat (j := 0) rfl, five, cmp_int _ _, ?_⟩
    rw [deq_int]
    by_cases q0 : x0.fmod 5 = 0
    · rw [decide_eq_true q0]
      refine ⟨_, atI_nat (j := 1) rfl, u, x1, rfl, hu, p1, fun d td nd' => ?_⟩
      have key : ∀ d8, tyOk d8 → cRetM (cAndV (cB gEq (cCallO 0 (sp_law_class c) (cCons (cC (.int 0)) (cCons (cV 7) (cCons (cV 5) (cCons (cV 8) cNil))))) (cC (.str (Str.ofString "name")))) (cB gEq (cCallO 0 (sp_law_class c) (cCons (cC (.int 0)) (cCons (cV 4) (cCons (cV 7) (cCons (cV 8) cNil))))) (cC (.str (Str.ofString "name"))))) (finM a Q)
          [.tr (a :: bs) (bkT c.Book m [(u, v)] [x]), .pu (.lst [.str u, .str v, .str o]), .pu (.int m), .pu (.lst [.int x0, .int x1, .int x2, .int x3]), .pu (.str u), .pu (.str v), .pu (.str o), .pu d, .pu d8] (errM a Ex) := fun d8 t8 => by
        refine ⟨⟨_, _, _, rfl⟩, a, bs, _, rfl, m, [(u, v)], [x], 0, d, .str v, d8, rfl, rfl, td, ty_nm hv, t8, bk, nd, l1, .inl ⟨rfl, by simp [nd'], fun cs => ?_⟩⟩
        refine ⟨cmp_told _ _, ?_⟩
        rw [show deq (told "name") (.str (Str.ofString "name")) = true from deq_refl _]
        refine ⟨⟨_, _, _, rfl⟩, a, cs, _, rfl, m, [(u, v)], [x], 0, .str u, d, d8, rfl, rfl, ty_nm hu, td, t8, bk, nd, l1, .inl ⟨rfl, by simp [nd'], fun cs => ?_⟩⟩
        refine ⟨cmp_told _ _, ?_⟩
        rw [show deq (told "name") (.str (Str.ofString "name")) = true from deq_refl _]
        exact ⟨_, _, rfl, h⟩
      refine ⟨_, atI_nat (j := 2) rfl, x2, m, rfl, p2, fun e te me => ⟨by show (2 : Nat) ≤ sizeLine; decide, _, atI_nat (j := 3) rfl, by show (2 : Int) ≠ 0; decide, ?_⟩⟩
      obtain ⟨t, et, ht⟩ := fmod_nat (i := x3) (n := 2) (by decide)
      show ∃ d, atI [.int 0, e] (x3.fmod 2) = some d ∧ _
      rw [show x3.fmod 2 = (t : Int) from et]
      rcases (show t = 0 ∨ t = 1 by omega) with rfl | rfl
      · exact ⟨_, atI_nat (j := 0) rfl, key _ (ty_int 0)⟩
      · exact ⟨_, atI_nat (j := 1) rfl, key _ te⟩
    · rw [decide_eq_false q0]
      refine ⟨_, atI_nat (j := 0) rfl, five, cmp_int _ _, ?_⟩
      rw [deq_int]
      by_cases q1 : x0.fmod 5 = 1
      · rw [decide_eq_true q1]
        refine ⟨⟨_, _, _, rfl⟩, by show (2 : Nat) ≤ sizeLine; decide, _, atI_nat (j := 3) rfl, by show (2 : Int) ≠ 0; decide, ?_⟩
        obtain ⟨t, et, ht⟩ := fmod_nat (i := x3) (n := 2) (by decide)
        show ∃ d, atI [D.str u, D.str o] (x3.fmod 2) = some d ∧ _
        rw [show x3.fmod 2 = (t : Int) from et]
        rcases (show t = 0 ∨ t = 1 by omega) with rfl | rfl
        · refine ⟨_, atI_nat (j := 0) rfl, _, atI_nat (j := 2) rfl, x2, m, rfl, p2, fun e te me => ⟨a, bs, _, rfl, m, [(u, v)], [x], 0, .str u, .str v, e, rfl, rfl, ty_nm hu, ty_nm hv, te, bk, nd, l1, .inr (.inl ⟨rfl, by show (nmS u && nmS v) = true; rw [hu, hv]; rfl, me, fun cs => ⟨cmp_told _ _, ?_⟩⟩)⟩⟩
          rw [show deq (told "mark") (.str (Str.ofString "mark")) = true from deq_refl _]
          exact ⟨_, _, rfl, h⟩
        · refine ⟨_, atI_nat (j := 1) rfl, _, atI_nat (j := 2) rfl, x2, m, rfl, p2, fun e te me => ⟨a, bs, _, rfl, m, [(u, v)], [x], 0, .str o, .str v, e, rfl, rfl, ty_nm ho, ty_nm hv, te, bk, nd, l1, .inr (.inl ⟨rfl, by show (nmS o && nmS v) = true; rw [ho, hv]; rfl, me, fun cs => ⟨cmp_told _ _, ?_⟩⟩)⟩⟩
          rw [show deq (told "mark") (.str (Str.ofString "mark")) = true from deq_refl _]
          exact ⟨_, _, rfl, h⟩
      · rw [decide_eq_false q1]
        refine ⟨_, atI_nat (j := 0) rfl, five, cmp_int _ _, ?_⟩
        rw [deq_int]
        by_cases q2 : x0.fmod 5 = 2
        · rw [decide_eq_true q2]
          have mr := lfr (i := x2) (m := m + 1) (by omega)
          refine ⟨⟨_, _, _, rfl⟩, _, atI_nat (j := 2) rfl, by show m + 1 ≠ 0; omega, a, bs, _, rfl, m, [(u, v)], [x], 0, .str u, .str v, .int (x2.fmod (m + 1)), rfl, rfl, ty_nm hu, ty_nm hv, ty_int _, bk, nd, l1, .inr (.inr (.inl ⟨rfl, by show (nmS u && nmS v) = true; rw [hu, hv]; rfl, by show (decide (0 ≤ x2.fmod (m + 1)) && decide (x2.fmod (m + 1) ≤ m)) = true; simp; omega, ⟨u, v, rfl, rfl, by simp⟩, fun cs => ?_⟩))⟩
          refine ⟨cmp_told _ _, ?_⟩
          rw [show deq (told "twice") (.str (Str.ofString "twice")) = true from deq_refl _]
          exact ⟨_, _, rfl, h⟩
        · rw [decide_eq_false q2]
          refine ⟨_, atI_nat (j := 0) rfl, five, cmp_int _ _, ?_⟩
          rw [deq_int]
          have l8 := (nm_len hv).2.1
          have line : (1000 : Nat) ≤ sizeLine := by decide
          by_cases q3 : x0.fmod 5 = 3
          · rw [decide_eq_true q3]
            have hx1 : (Str.ofString "x").length = 1 := by decide +kernel
            refine ⟨⟨_, _, _, rfl⟩, by show v.length + (Str.ofString "x").length ≤ sizeLine; omega, a, bs, _, rfl, m, [(u, v)], [x], 1, .str (v ++ Str.ofString "x"), .str v, .int 0, rfl, rfl, ty_str (by rw [str_app_len]; omega), ty_nm hv, ty_int _, bk, nd, l1, .inr (.inr (.inr ⟨rfl, .inr ⟨_, _, rfl, rfl, ?_⟩, fun cs => ?_⟩))⟩
            · simp only [List.mem_singleton, Prod.mk.injEq, not_and]
              intro z
              have := congrArg Str.length z
              rw [str_app_len] at this
              omega
            refine ⟨cmp_told _ _, ?_⟩
            rw [show deq (told "missing") (.str (Str.ofString "missing")) = true from deq_refl _]
            refine ⟨⟨_, _, _, rfl⟩, a, cs, _, rfl, m, [(u, v)], [x], 1, .str o, .str v, .int 0, rfl, rfl, ty_nm ho, ty_nm hv, ty_int _, bk, nd, l1, .inr (.inr (.inr ⟨rfl, .inr ⟨_, _, rfl, rfl, ?_⟩, fun cs => ?_⟩))⟩
            · simp only [List.mem_singleton, Prod.mk.injEq, not_and]
              exact fun z => absurd z.symm huo
            refine ⟨cmp_told _ _, ?_⟩
            rw [show deq (told "missing") (.str (Str.ofString "missing")) = true from deq_refl _]
            exact ⟨_, _, rfl, h⟩
          · rw [decide_eq_false q3]
            have key : ∀ d, tyOk d → nmD d = false → rd_law_right_6 K c (finM a Q) [.tr (a :: bs) (bkT c.Book m [(u, v)] [x]), .pu (.lst [.str u, .str v, .str o]), .pu (.int m), .pu (.lst [.int x0, .int x1, .int x2, .int x3]), .pu (.str u), .pu (.str v), .pu (.str o), .pu d, .no] (errM a Ex) := fun d td nd' => by
              refine ⟨⟨_, _, _, rfl⟩, a, bs, _, rfl, m, [(u, v)], [x], 1, d, .str v, .int 0, rfl, rfl, td, ty_nm hv, ty_int 0, bk, nd, l1, .inr (.inr (.inr ⟨rfl, .inl (by simp [nd']), fun cs => ⟨cmp_told _ _, ?_⟩⟩))⟩
              rw [show deq (told "missing") (.str (Str.ofString "missing")) = true from deq_refl _]
              refine ⟨⟨_, _, _, rfl⟩, a, cs, _, rfl, m, [(u, v)], [x], 1, .str u, d, .int 0, rfl, rfl, ty_nm hu, td, ty_int 0, bk, nd, l1, .inr (.inr (.inr ⟨rfl, .inl (by simp [nd']), fun cs => ⟨cmp_told _ _, ?_⟩⟩))⟩
              rw [show deq (told "missing") (.str (Str.ofString "missing")) = true from deq_refl _]
              exact ⟨_, _, rfl, h⟩
            refine ⟨by show (1 : Nat) ≤ sizeLine; decide, by show (8 : Nat) ≤ sizeLine; decide, _, atI_nat (j := 1) rfl, by show (8 : Int) ≠ 0; decide, ?_⟩
            obtain ⟨t, et, ht⟩ := fmod_nat (i := x1) (n := 8) (by decide)
            show ∃ d, atI [told "", told "Aa", told "a b", told "abcdefghijk", .int 5, .non, .bl true, .lst [.str u]] (x1.fmod 8) = some d ∧ _
            rw [show x1.fmod 8 = (t : Int) from et]
            rcases (show t = 0 ∨ t = 1 ∨ t = 2 ∨ t = 3 ∨ t = 4 ∨ t = 5 ∨ t = 6 ∨ t = 7 by omega) with rfl | rfl | rfl | rfl | rfl | rfl | rfl | rfl
            · exact ⟨_, atI_nat (j := 0) rfl, key _ (ty_str (by decide +kernel)) (by decide +kernel)⟩
            · exact ⟨_, atI_nat (j := 1) rfl, key _ (ty_str (by decide +kernel)) (by decide +kernel)⟩
            · exact ⟨_, atI_nat (j := 2) rfl, key _ (ty_str (by decide +kernel)) (by decide +kernel)⟩
            · exact ⟨_, atI_nat (j := 3) rfl, key _ (ty_str (by decide +kernel)) (by decide +kernel)⟩
            · exact ⟨_, atI_nat (j := 4) rfl, key _ (ty_of rfl fun _ z => by cases z) rfl⟩
            · exact ⟨_, atI_nat (j := 5) rfl, key _ (ty_of rfl fun _ z => by cases z) rfl⟩
            · exact ⟨_, atI_nat (j := 6) rfl, key _ (ty_of rfl fun _ z => by cases z) rfl⟩
            · exact ⟨_, atI_nat (j := 7) rfl, key _ (ty_of rfl fun _ z => by cases z) rfl⟩

theorem toD_bk (C : Addr) (m : Int) (ps : List P2) (vs : List Int) : toD (bkT C m ps vs) = bkD C m ps vs := by
  have e : ∀ l : List Int, toDs ((l.map D.int).map .leaf) = l.map D.int := fun l => by
    induction l with
    | nil => rfl
    | cons x l ih =>
      simp only [List.map_cons]
      unfold toDs toD
      rw [ih]
  unfold bkT bkD toD
  unfold toDs toD
  unfold toDs toD
  rw [e]
  unfold toDs
  rfl
theorem cmp_rows1 {n : Nat} (a b : P2 × Int) : Cmp (n + 2) (.lst [.tup [.str a.1.1, .str a.1.2, .int a.2]]) (.lst [.tup [.str b.1.1, .str b.1.2, .int b.2]]) := by
  simp only [Cmp]
  intro i x y h1 h2
  match i with
  | 0 =>
    cases h1; cases h2
    simp only [Cmp]
    intro i x y h1 h2
    match i with
    | 0 => cases h1; cases h2; cases n <;> simp [Cmp]
    | 1 => cases h1; cases h2; cases n <;> simp [Cmp]
    | 2 => cases h1; cases h2; cases n <;> simp [Cmp]
    | i + 3 => simp at h1
  | i + 1 => simp at h1
theorem cmp_nilB {n : Nat} (a : List D) : Cmp (n + 1) (.lst a) (.lst []) := by
  simp only [Cmp]
  intro i x y h1 h2
  simp at h2
theorem meth_rows {c : Cls} {i : Nat} {Γ : G2} {as : List Addr} {m : Int} {ps : List P2} {vs : List Int} {P : D → G2 → Prop} {E : XW} (e : Γ[i]? = some (.tr as (bkT c.Book m ps vs)))
    (h : sp_Book_rows c [bkD c.Book m ps vs] (fun r => P r (frzG Γ)) (fun Cx => E (frzG Γ) Cx)) : cMeth0 c.Book "rows" (sp_Book_rows c) (cV i) (frzG Γ) P E := by
  unfold cMeth0 cV
  have e2 : (frzG Γ)[i]? = some (.pu (bkD c.Book m ps vs)) := by
    unfold frzG
    rw [List.getElem?_map, e, ← toD_bk]; rfl
  rw [e2]
  exact ⟨rfl, rows_nof, h⟩
theorem r_law {K : PySem.W.Frag} {c : Cls} {ds Q Ex} (h : sp_law c ds Q Ex) : rd_law K c (fin Q) (start3 6 ds) fun _ => Ex := by
  obtain ⟨ns, rfl, hl, h⟩ := h
  let S : D := .lst (ns.map .int)
  have line : (1000 : Nat) ≤ sizeLine := by decide
  have main : ∀ most : Int, 0 ≤ most → rd_law_2 K c (fin Q) [.pu S, .pu (.int most), .no, .no, .no, .no] fun _ => Ex := by
    intro most hm
    refine ⟨ns, 1, rfl, hl, by decide, _, 3, rfl, by decide, fun xs hx hn nd pw => ?_⟩
    match xs, hx with
    | [a, b, o], _ =>
      have ha := hn a (by simp)
      have hb := hn b (by simp)
      have ho := hn o (by simp)
      have hao : a ≠ o := by simp at nd; exact nd.1.2
      have hab : a.length ≤ b.length := by simp at pw; exact pw.1.1
      have tab : (nmD (.str a) && nmD (.str b)) = true := by show (nmS a && nmS b) = true; rw [ha, hb]; rfl
      refine ⟨ns, 2, rfl, hl, by decide, by show most + 1 ≠ 0; omega, ?_⟩
      have hv := lfr (i := cellV ns 2) (m := most + 1) (by omega)
      change rd_law_4 K c (fin Q) [.pu S, .pu (.int most), .pu (.lst [.str a, .str b, .str o]), .pu (.int ((cellV ns 2).fmod (most + 1))), .no, .no] fun _ => Ex
      generalize (cellV ns 2).fmod (most + 1) = v at hv
      refine ⟨rfl, most, rfl, ⟨fun d z => (by cases z), fun k z => (by cases z)⟩, fun r rs => ?_⟩
      -- rows
      have rows : ∀ (v : Int) (P : D → Prop) (E : Value → Prop), P (.lst [.tup [.str a, .str b, .int v]]) → sp_Book_rows c [bkD c.Book most [(a, b)] [v]] P E := fun v P E hp => by
        refine ⟨most, [(a, b)], [v], rfl, rfl, by show 1 < 64; decide, fun ms pm _ => ?_⟩
        rw [List.perm_singleton.mp pm]
        have e : lookL ([((a, b) : P2)].map pkK) [v] (pkK (a, b)) = some v := by show (if _ then _ else _) = _; rw [if_pos rfl]
        show P (.lst [rowE [(a, b)] [v] (a, b)])
        unfold rowE
        rw [e]
        exact hp
      refine ⟨bk_nof _ put_nof rfl, _, atI_nat (j := 0) rfl, _, atI_nat (j := 1) rfl, r, rs, _, rfl, most, [], [], .str a, .str b, .int v, rfl, rfl, ty_nm ha, ty_nm hb, ty_int v, rfl, by decide, ?_⟩
      rw [if_pos tab, if_pos (by show (decide (0 ≤ v) && decide (v ≤ most)) = true; simp; omega)]
      intro w' h' k' e1 e2 e3
      cases e1; cases e2; cases e3
      rw [if_neg (by simp)]
      intro cs
      have one : (1 : Nat) ≤ sizeLine := by decide
      have three : (3 : Nat) ≤ sizeLine := by decide
      refine ⟨⟨by decide, by decide⟩, fun _ Γ => ∃ cs x, Γ = [.pu S, .pu (.int most), .pu (.lst [.str a, .str b, .str o]), .pu (.int v), .tr (r :: cs) (bkT c.Book most [(a, b)] [v]), x], ⟨_, _, rfl⟩, ?_, ?_⟩
      · rintro k _ hk ⟨cs, x, rfl⟩
        refine ⟨⟨_, _, _, rfl⟩, ns, 3 + k, by show [D.lst _, D.int (3 + (0 + (k : Int)))] = _; rw [show (3 : Int) + (0 + (k : Int)) = ((3 + k : Nat) : Int) by omega], hl, by omega, _, 4, rfl, by decide, fun xs hx hb' => ⟨r, cs, _, rfl, most, a, b, o, v, xs, rfl, rfl, ha, hb, ho, hao, hab, hm, hx, fun x hx => (hb' x hx).1, fun cs => ?_⟩⟩
        show (if (!true) = true then _ else _)
        rw [if_neg (by decide)]
        show rd_law_b1_1 K c _ [.pu S, .pu (.int most), .pu (.lst [.str a, .str b, .str o]), .pu (.int v), .tr (r :: cs) (bkT c.Book most [(a, b)] [v]), .pu (.int (0 + (k : Int)))] _
        unfold rd_law_b1_1
        dsimp only [cIfS, cPeekT, cT, cB]
        refine meth_rows (i := 4) (Γ := [.pu S, .pu (.int most), .pu (.lst [.str a, .str b, .str o]), .pu (.int v), .tr (r :: cs) (bkT c.Book most [(a, b)] [v]), .pu (.int (0 + (k : Int)))]) (as := r :: cs) (m := most) (ps := [(a, b)]) (vs := [v]) rfl (rows v _ _ ?_)
        refine ⟨_, atI_nat (j := 0) rfl, _, atI_nat (j := 1) rfl, three, one, cmp_rows1 ((a, b), v) ((a, b), v), ?_⟩
        rw [show deq (.lst [.tup [.str a, .str b, .int v]]) (.lst [.tup [.str a, .str b, .int v]]) = true from deq_refl _]
        exact ⟨_, _, rfl⟩
      · rintro _ ⟨cs, x, rfl⟩
        refine ⟨bk_nof _ drop_nof rfl, _, atI_nat (j := 0) rfl, _, atI_nat (j := 1) rfl, r, cs, _, rfl, most, [(a, b)], [v], .str a, .str b, rfl, rfl, ty_nm ha, ty_nm hb, rfl, by simp, ?_⟩
        rw [if_pos tab]
        intro w' h' e1 e2
        cases e1; cases e2
        rw [if_pos (by simp)]
        have d1 : dropQ [((a, b) : P2)] (a, b) = [] := by unfold dropQ; simp
        have d2 : dropV [((a, b) : P2)] [v] (a, b) = [] := by
          unfold dropV
          show (if pkK (a, b) = pkK (a, b) then dropLX [] [] _ else _) = _
          rw [if_pos rfl]; unfold dropLX; rfl
        rw [d1, d2]
        intro cs
        change rd_law_8 K c (fin Q) [.pu S, .pu (.int most), .pu (.lst [.str a, .str b, .str o]), .pu (.int v), .tr (r :: cs) (bkT c.Book most [] []), x] fun _ => Ex
        have nor : ∀ (P : D → Prop) (E : Value → Prop), P (.lst []) → sp_Book_rows c [bkD c.Book most [] []] P E := fun P E hp => by
          refine ⟨most, [], [], rfl, rfl, by show 0 < 64; decide, fun ms pm _ => ?_⟩
          rw [List.perm_nil.mp pm]
          exact hp
        unfold rd_law_8
        dsimp only [cSeq, cIfS, cPeekT, cT, cB, cOr]
        refine meth_rows (i := 4) (Γ := [.pu S, .pu (.int most), .pu (.lst [.str a, .str b, .str o]), .pu (.int v), .tr (r :: cs) (bkT c.Book most [] []), x]) (as := r :: cs) (m := most) (ps := []) (vs := []) rfl (nor _ _ ?_)
        refine ⟨by show (0 : Nat) ≤ sizeLine; decide, cmp_nilB _, ?_⟩
        rw [show deq (.lst []) (.lst []) = true from deq_refl _]
        refine ⟨⟨_, _, _, rfl⟩, _, atI_nat (j := 0) rfl, _, atI_nat (j := 1) rfl, r, cs, _, rfl, most, [], [], 1, .str a, .str b, .int 0, rfl, rfl, ty_nm ha, ty_nm hb, ty_int 0, rfl, by simp, by decide, .inr (.inr (.inr ⟨rfl, .inr ⟨a, b, rfl, rfl, by simp⟩, fun cs => ⟨cmp_told _ _, ?_⟩⟩))⟩
        rw [show deq (told "missing") (.str (Str.ofString "missing")) = true from deq_refl _]
        change rd_law_9 K c (fin Q) [.pu S, .pu (.int most), .pu (.lst [.str a, .str b, .str o]), .pu (.int v), .tr (r :: cs) (bkT c.Book most [] []), x] fun _ => Ex
        refine ⟨bk_nof _ put_nof rfl, _, atI_nat (j := 0) rfl, _, atI_nat (j := 1) rfl, r, cs, _, rfl, most, [], [], .str a, .str b, .int (most - v), rfl, rfl, ty_nm ha, ty_nm hb, ty_int _, rfl, by decide, ?_⟩
        rw [if_pos tab, if_pos (by show (decide (0 ≤ most - v) && decide (most - v ≤ most)) = true; simp; omega)]
        intro w' h' k' e1 e2 e3
        cases e1; cases e2; cases e3
        rw [if_neg (by simp)]
        intro cs
        change rd_law_10 K c (fin Q) [.pu S, .pu (.int most), .pu (.lst [.str a, .str b, .str o]), .pu (.int v), .tr (r :: cs) (bkT c.Book most [(a, b)] [most - v]), x] fun _ => Ex
        unfold rd_law_10
        dsimp only [cRet, cPeek, cB]
        refine meth_rows (i := 4) (Γ := [.pu S, .pu (.int most), .pu (.lst [.str a, .str b, .str o]), .pu (.int v), .tr (r :: cs) (bkT c.Book most [(a, b)] [most - v]), x]) (as := r :: cs) (m := most) (ps := [(a, b)]) (vs := [most - v]) rfl (rows _ _ _ ?_)
        refine ⟨_, atI_nat (j := 0) rfl, _, atI_nat (j := 1) rfl, three, one, cmp_rows1 ((a, b), most - v) ((a, b), most - v), ?_⟩
        rw [show deq (.lst [.tup [.str a, .str b, .int (most - v)]]) (.lst [.tup [.str a, .str b, .int (most - v)]]) = true from deq_refl _]
        exact ⟨trivial, h⟩
  refine ⟨ns, 0, rfl, hl, by decide, by show (10 : Int) ≠ 0; decide, ?_⟩
  have h10 := lfr (i := cellV ns 0) (m := 10) (by decide)
  refine ⟨ns, 0, rfl, hl, by decide, ⟨by show (10 : Int) ≠ 0; decide, Nat.le_trans (bln_le (k := 8) (by decide)) (by decide)⟩, by show (3 : Int) ≠ 0; decide, cmp_int _ _, ?_⟩
  show if deq (.int (((cellV ns 0).fdiv 10).fmod 3)) (.int 1) = true then _ else _
  split
  · refine ⟨ns, 0, rfl, hl, by decide, ⟨by show (30 : Int) ≠ 0; decide, Nat.le_trans (bln_le (k := 8) (by decide)) (by decide)⟩, show CPow 10 59 from ⟨by decide, by decide, by decide⟩, by show (10 ^ 59 : Int) ≠ 0; decide, ?_⟩
    have h59 := lfr (i := (cellV ns 0).fdiv 30) (m := 10 ^ 59) (by decide)
    exact main _ h59.1
  · exact main _ h10.1

end L3


local macro_rules | `(tactic| trivial) => `(tactic| first | exact Or.inl rfl | exact Or.inr (Or.inl rfl) | exact Or.inr (Or.inr rfl) | exact Or.inr rfl)
namespace Lw
open PySem PySem.Spec PyProof.Rows L2 L3
def top (i : Nat) : Stmt := PySem.Challenge.pw_hall_k12_book_refusals.main.body.getD i (.Pass ⟨0, 0, 0, 0⟩)
theorem len1 {us : List Value} (h : us.length = 1) : ∃ a0, us = [a0] := by
  match us, h with | [a0], _ => exact ⟨a0, rfl⟩
theorem len2 {us : List Value} (h : us.length = 2) : ∃ a0 a1, us = [a0, a1] := by
  match us, h with | [a0, a1], _ => exact ⟨a0, a1, rfl⟩
theorem len3 {us : List Value} (h : us.length = 3) : ∃ a0 a1 a2, us = [a0, a1, a2] := by
  match us, h with | [a0, a1, a2], _ => exact ⟨a0, a1, a2, rfl⟩
theorem len4 {us : List Value} (h : us.length = 4) : ∃ a0 a1 a2 a3, us = [a0, a1, a2, a3] := by
  match us, h with | [a0, a1, a2, a3], _ => exact ⟨a0, a1, a2, a3, rfl⟩
theorem len5 {us : List Value} (h : us.length = 5) : ∃ a0 a1 a2 a3 a4, us = [a0, a1, a2, a3, a4] := by
  match us, h with | [a0, a1, a2, a3, a4], _ => exact ⟨a0, a1, a2, a3, a4, rfl⟩
section
variable {P : Program} {w : World} {K : PySem.W.Frag} {mg : Str → Option Value} {base : Heap}
abbrev s_is_mark : Stmt := top 14
theorem sc_is_mark : FnScope ["mark", "most"] ["mark", "most"] (defScope s_is_mark) := ⟨rfl, rfl, rfl, by decide +kernel, rfl, by decide +kernel, by decide +kernel⟩
theorem d_is_mark {f : Addr} {cdv : Value} {A : Around} {outer : List Env} {s : Shared} {H : Hp} {E : XK} {F0 : Hp} (c : Cls) (hr : Room 0 (A.deeper (envOfC "is_mark" (defScope s_is_mark) s.heap.objs.size f cdv))) (b_isinstance : mg "isinstance" = none) (b_bool : mg "bool" = none) (b_int : mg "int" = none) : QSs (cxOf (CX1 P w) P w K mg base ["mark", "most"] "is_mark" (defScope s_is_mark) f cdv A outer s H E) F0 H (defBody s_is_mark) (rd_is_mark K c ) := by
  have nd := sc_is_mark.nd
  have hu : (A.deeper (envOfC "is_mark" (defScope s_is_mark) s.heap.objs.size f cdv)).units + 21 < cLine := by have := hr.units; omega
  exact (qss_cons (by exact (qs_if (by exact (qt_w (qw_or (qt_val (qe_isi (qe_var (i := 0) rfl (by trivial)) rfl b_isinstance rfl b_bool rfl)) (qw_or1 (qt_not (qt_val (qe_isi (qe_var (i := 0) rfl (by trivial)) rfl b_isinstance rfl b_int rfl)))))))
 (by exact (qss_one (by exact (qs_ret (by exact qe_bl)))))
 (by exact qss_nil)))
 (by exact (qss_one (by exact (qs_ret (by exact (qe_chain (fun _ => o_le) (fun _ => o_le) qe_int (qe_var (i := 0) rfl (by trivial)) (qe_var (i := 1) rfl (by trivial)))))))))
theorem fo_is_mark {f : Addr} {fd : FuncData} (c : Cls) (F : Fun K "is_mark" "is_mark" s_is_mark f fd) (b_isinstance : mg "isinstance" = none) (b_bool : mg "bool" = none) (b_int : mg "int" = none)  : FnOk P w K mg base (CX1 P w) 1 f fd ["mark", "most"] (spUp K (sp_is_mark c)) :=
  fn2 F sc_is_mark (fun _ _ _ h => l_is_mark h) fun cdv A outer s H E hr F0 => ⟨rd_is_mark K c , d_is_mark c hr b_isinstance b_bool b_int, fun ds Q Ex h => r_is_mark  h⟩
theorem ok_is_mark {f : Addr} {fd : FuncData} (c : Cls) (F : Fun K "is_mark" "is_mark" s_is_mark f fd) (hm : mg "is_mark" = some (.ref f)) (b_isinstance : mg "isinstance" = none) (b_bool : mg "bool" = none) (b_int : mg "int" = none)  : Fn2 P w K mg base "is_mark" 1 ["mark", "most"] (sp_is_mark c) :=
  ⟨f, fd, fo_is_mark c F  b_isinstance b_bool b_int , hm, F.kp, F.binds fun _ _ _ _ _ _ us hl => by obtain ⟨_, _, rfl⟩ := len2 hl; exact rfl⟩
abbrev s_is_name : Stmt := top 13
theorem sc_is_name : FnScope ["name"] ["name"] (defScope s_is_name) := ⟨rfl, rfl, rfl, by decide +kernel, rfl, by decide +kernel, by decide +kernel⟩
theorem d_is_name {f : Addr} {cdv : Value} {A : Around} {outer : List Env} {s : Shared} {H : Hp} {E : XK} {F0 : Hp} (c : Cls) (hr : Room 0 (A.deeper (envOfC "is_name" (defScope s_is_name) s.heap.objs.size f cdv))) (b_all : mg "all" = none) (b_isinstance : mg "isinstance" = none) (b_str : mg "str" = none) (b_len : mg "len" = none) (k_LONGEST_NAME : Glb K mg "LONGEST_NAME" (.int 8)) : QSs (cxOf (CX1 P w) P w K mg base ["name"] "is_name" (defScope s_is_name) f cdv A outer s H E) F0 H (defBody s_is_name) (rd_is_name K c ) := by
  have nd := sc_is_name.nd
  have hu : (A.deeper (envOfC "is_name" (defScope s_is_name) s.heap.objs.size f cdv)).units + 21 < cLine := by have := hr.units; omega
  exact (qss_cons (by exact (qs_if (by exact (qt_not (qt_val (qe_isi (qe_var (i := 0) rfl (by trivial)) rfl b_isinstance rfl b_str rfl))))
 (by exact (qss_one (by exact (qs_ret (by exact qe_bl)))))
 (by exact qss_nil)))
 (by exact (qss_cons (by exact (qs_if (by exact (qt_not (qt_chain (fun _ => o_le) (fun _ => o_le) qe_int (qe_callB (fun _ => q_len) rfl b_len boot_len (qa_cons (qe_var (i := 0) rfl (by trivial)) qa_nil)) (qe_glb rfl k_LONGEST_NAME))))
 (by exact (qss_one (by exact (qs_ret (by exact qe_bl)))))
 (by exact qss_nil)))
 (by exact (qss_one (by exact (qs_ret (by exact (qe_callB (fun _ => q_all rfl) rfl b_all boot_all (qa_cons (qe_of (by exact (qf_comp (own := ["sign"]) (N' := ["sign"]) (by show CpOk ["name"] _ ["sign"] [] (defScope s_is_name) ["sign"]; exact ⟨rfl, by decide +kernel, by decide +kernel, by decide +kernel, rfl, by decide +kernel⟩) rfl (by exact (qic (qi_txt (qe_var (i := 0) rfl (by trivial))))) (fun C s₀ H₀ fp F0 H0 => by exact (qg_name (i := 0) (show (["sign"] : List Str).Nodup by decide +kernel) rfl (by trivial))) (fun C s₀ H₀ fp F0 H0 => by exact qts_nil) (fun C s₀ H₀ fp F0 H0 => by exact (qe_chain (fun _ => o_leT) (fun _ => o_leT) qe_str (qe_var (i := 0) rfl (by trivial)) qe_str))))) qa_nil))))))))))
theorem fo_is_name {f : Addr} {fd : FuncData} (c : Cls) (F : Fun K "is_name" "is_name" s_is_name f fd) (b_all : mg "all" = none) (b_isinstance : mg "isinstance" = none) (b_str : mg "str" = none) (b_len : mg "len" = none) (k_LONGEST_NAME : Glb K mg "LONGEST_NAME" (.int 8))  : FnOk P w K mg base (CX1 P w) 1 f fd ["name"] (spUp K (sp_is_name c)) :=
  fn2 F sc_is_name (fun _ _ _ h => l_is_name h) fun cdv A outer s H E hr F0 => ⟨rd_is_name K c , d_is_name c hr b_all b_isinstance b_str b_len k_LONGEST_NAME, fun ds Q Ex h => r_is_name  h⟩
theorem ok_is_name {f : Addr} {fd : FuncData} (c : Cls) (F : Fun K "is_name" "is_name" s_is_name f fd) (hm : mg "is_name" = some (.ref f)) (b_all : mg "all" = none) (b_isinstance : mg "isinstance" = none) (b_str : mg "str" = none) (b_len : mg "len" = none) (k_LONGEST_NAME : Glb K mg "LONGEST_NAME" (.int 8))  : Fn2 P w K mg base "is_name" 1 ["name"] (sp_is_name c) :=
  ⟨f, fd, fo_is_name c F  b_all b_isinstance b_str b_len k_LONGEST_NAME , hm, F.kp, F.binds fun _ _ _ _ _ _ us hl => by obtain ⟨_, rfl⟩ := len1 hl; exact rfl⟩
abbrev s_Book_put : Stmt := inClass (top 15) 1
theorem sc_Book_put : FnScope ["self", "work", "hand", "mark"] ["self", "work", "hand", "mark"] (defScope s_Book_put) := ⟨rfl, rfl, rfl, by decide +kernel, rfl, by decide +kernel, by decide +kernel⟩
theorem d_Book_put {f : Addr} {cdv : Value} {A : Around} {outer : List Env} {s : Shared} {H H1 : Hp} {E : XK} {F0 : Hp} (c : Cls) (hr : Room 1 (A.deeper (envOfC "Book.put" (defScope s_Book_put) s.heap.objs.size f cdv))) (G_is_mark : Fn2 P w K mg base "is_mark" 1 ["mark", "most"] (sp_is_mark c)) (G_is_name : Fn2 P w K mg base "is_name" 1 ["name"] (sp_is_name c)) (e_NoName : mg "NoName" = some (.ref c.NoName) ∧ ExcC K c.NoName) (e_NoMark : mg "NoMark" = some (.ref c.NoMark) ∧ ExcC K c.NoMark) (e_Twice : mg "Twice" = some (.ref c.Twice) ∧ ExcC K c.Twice) (oc_Book : L2.Cls K c.Book) (na_Book_marks : NoAttr K c.Book "marks") (na_Book_most : NoAttr K c.Book "most") : QSs (cxOf (CX1 P w) P w K mg base ["self", "work", "hand", "mark"] "Book.put" (defScope s_Book_put) f cdv A outer s H E) F0 H1 (defBody s_Book_put) (rd_Book_put K c) := by
  have nd := sc_Book_put.nd
  have hu : (A.deeper (envOfC "Book.put" (defScope s_Book_put) s.heap.objs.size f cdv)).units + 21 < cLine := by have := hr.units; omega
  exact (qss_cons (by exact (qs_if (by exact (qt_w (qw_or (qt_not (qt_val (qe_callF G_is_name (hr.mono (by decide)) rfl (qa_cons (qe_var (i := 1) rfl (by trivial)) qa_nil)))) (qw_or1 (qt_not (qt_val (qe_callF G_is_name (hr.mono (by decide)) rfl (qa_cons (qe_var (i := 2) rfl (by trivial)) qa_nil))))))))
 (by exact (qss_one (by exact (qs_raise rfl rfl e_NoName.1 e_NoName.2 (qa_cons qe_str qa_nil)))))
 (by exact qss_nil)))
 (by exact (qss_cons (by exact (qs_if (by exact (qt_not (qt_val (qe_callF G_is_mark (hr.mono (by decide)) rfl (qa_cons (qe_var (i := 3) rfl (by trivial)) (qa_cons (qe_fldO (i := 0) oc_Book na_Book_most rfl (by trivial)) qa_nil))))))
 (by exact (qss_one (by exact (qs_raise rfl rfl e_NoMark.1 e_NoMark.2 (qa_cons qe_str qa_nil)))))
 (by exact qss_nil)))
 (by exact (qss_cons (by exact (qs_if (by exact (qt_inO (i := 0) false (Nat.lt_of_le_of_lt (Nat.add_le_add_left (show 1 ≤ 21 by decide) _) hu) oc_Book na_Book_marks (by exact (qe_tup (qa_cons (qe_var (i := 1) rfl (by trivial)) (qa_cons (qe_var (i := 2) rfl (by trivial)) qa_nil)))) rfl (by trivial)))
 (by exact (qss_one (by exact (qs_raise rfl rfl e_Twice.1 e_Twice.2 (qa_cons qe_str qa_nil)))))
 (by exact qss_nil)))
 (by exact (qss_one (by exact (qs_putO (i := 0) (j := 1) (l := 2) (Nat.lt_of_le_of_lt (Nat.add_le_add_left (show 1 ≤ 21 by decide) _) hu) oc_Book na_Book_marks (by exact (qe_var (i := 3) rfl (by trivial))) rfl (by trivial) rfl (by trivial) rfl (by trivial))))))))))
theorem fo_Book_put {f : Addr} {fd : FuncData} (c : Cls) (F : Fun K "put" "Book.put" s_Book_put f fd) (G_is_mark : Fn2 P w K mg base "is_mark" 1 ["mark", "most"] (sp_is_mark c)) (G_is_name : Fn2 P w K mg base "is_name" 1 ["name"] (sp_is_name c)) (e_NoName : mg "NoName" = some (.ref c.NoName) ∧ ExcC K c.NoName) (e_NoMark : mg "NoMark" = some (.ref c.NoMark) ∧ ExcC K c.NoMark) (e_Twice : mg "Twice" = some (.ref c.Twice) ∧ ExcC K c.Twice) (oc_Book : L2.Cls K c.Book) (na_Book_marks : NoAttr K c.Book "marks") (na_Book_most : NoAttr K c.Book "most")  : FnOk P w K mg base (CX1 P w) 2 f fd ["self", "work", "hand", "mark"] (spUpM K (sp_Book_put c)) :=
  fn2M F sc_Book_put (fun _ _ _ _ h => l_Book_put h) fun cdv A outer s H E hr F0 H0 => ⟨rd_Book_put K c, d_Book_put c hr G_is_mark G_is_name e_NoName e_NoMark e_Twice oc_Book na_Book_marks na_Book_most, fun a bs t ds Q Ex h => r_Book_put  h⟩
theorem ok_Book_put {f : Addr} {fd : FuncData} (c : Cls) (F : Fun K "put" "Book.put" s_Book_put f fd) (M : Meth K c.Book "put" f) (G_is_mark : Fn2 P w K mg base "is_mark" 1 ["mark", "most"] (sp_is_mark c)) (G_is_name : Fn2 P w K mg base "is_name" 1 ["name"] (sp_is_name c)) (e_NoName : mg "NoName" = some (.ref c.NoName) ∧ ExcC K c.NoName) (e_NoMark : mg "NoMark" = some (.ref c.NoMark) ∧ ExcC K c.NoMark) (e_Twice : mg "Twice" = some (.ref c.Twice) ∧ ExcC K c.Twice) (oc_Book : L2.Cls K c.Book) (na_Book_marks : NoAttr K c.Book "marks") (na_Book_most : NoAttr K c.Book "most")  : Mt2M P w K mg base c.Book "put" 2 ["self", "work", "hand", "mark"] (sp_Book_put c) :=
  ⟨f, fd, fo_Book_put c F G_is_mark G_is_name e_NoName e_NoMark e_Twice oc_Book na_Book_marks na_Book_most , M, F.binds fun _ _ _ _ _ _ us hl => by obtain ⟨_, _, _, _, rfl⟩ := len4 hl; exact rfl⟩
abbrev s_Book_drop : Stmt := inClass (top 15) 2
theorem sc_Book_drop : FnScope ["self", "work", "hand"] ["self", "work", "hand"] (defScope s_Book_drop) := ⟨rfl, rfl, rfl, by decide +kernel, rfl, by decide +kernel, by decide +kernel⟩
theorem d_Book_drop {f : Addr} {cdv : Value} {A : Around} {outer : List Env} {s : Shared} {H H1 : Hp} {E : XK} {F0 : Hp} (c : Cls) (hr : Room 1 (A.deeper (envOfC "Book.drop" (defScope s_Book_drop) s.heap.objs.size f cdv))) (G_is_name : Fn2 P w K mg base "is_name" 1 ["name"] (sp_is_name c)) (e_Missing : mg "Missing" = some (.ref c.Missing) ∧ ExcC K c.Missing) (oc_Book : L2.Cls K c.Book) (na_Book_marks : NoAttr K c.Book "marks") : QSs (cxOf (CX1 P w) P w K mg base ["self", "work", "hand"] "Book.drop" (defScope s_Book_drop) f cdv A outer s H E) F0 H1 (defBody s_Book_drop) (rd_Book_drop K c) := by
  have nd := sc_Book_drop.nd
  have hu : (A.deeper (envOfC "Book.drop" (defScope s_Book_drop) s.heap.objs.size f cdv)).units + 21 < cLine := by have := hr.units; omega
  exact (qss_cons (by exact (qs_if (by exact (qt_w (qw_or (qt_not (qt_val (qe_callF G_is_name (hr.mono (by decide)) rfl (qa_cons (qe_var (i := 1) rfl (by trivial)) qa_nil)))) (qw_or (qt_not (qt_val (qe_callF G_is_name (hr.mono (by decide)) rfl (qa_cons (qe_var (i := 2) rfl (by trivial)) qa_nil)))) (qw_or1 (qt_inO (i := 0) true (Nat.lt_of_le_of_lt (Nat.add_le_add_left (show 1 ≤ 21 by decide) _) hu) oc_Book na_Book_marks (by exact (qe_tup (qa_cons (qe_var (i := 1) rfl (by trivial)) (qa_cons (qe_var (i := 2) rfl (by trivial)) qa_nil)))) rfl (by trivial)))))))
 (by exact (qss_one (by exact (qs_raise rfl rfl e_Missing.1 e_Missing.2 (qa_cons qe_str qa_nil)))))
 (by exact qss_nil)))
 (by exact (qss_one (by exact (qs_popO (i := 0) (j := 1) (l := 2) (Nat.lt_of_le_of_lt (Nat.add_le_add_left (show 1 ≤ 21 by decide) _) hu) oc_Book na_Book_marks rfl (by trivial) rfl (by trivial) rfl (by trivial) ⟨rfl, rfl, rfl, rfl⟩)))))
theorem fo_Book_drop {f : Addr} {fd : FuncData} (c : Cls) (F : Fun K "drop" "Book.drop" s_Book_drop f fd) (G_is_name : Fn2 P w K mg base "is_name" 1 ["name"] (sp_is_name c)) (e_Missing : mg "Missing" = some (.ref c.Missing) ∧ ExcC K c.Missing) (oc_Book : L2.Cls K c.Book) (na_Book_marks : NoAttr K c.Book "marks")  : FnOk P w K mg base (CX1 P w) 2 f fd ["self", "work", "hand"] (spUpM K (sp_Book_drop c)) :=
  fn2M F sc_Book_drop (fun _ _ _ _ h => l_Book_drop h) fun cdv A outer s H E hr F0 H0 => ⟨rd_Book_drop K c, d_Book_drop c hr G_is_name e_Missing oc_Book na_Book_marks, fun a bs t ds Q Ex h => r_Book_drop  h⟩
theorem ok_Book_drop {f : Addr} {fd : FuncData} (c : Cls) (F : Fun K "drop" "Book.drop" s_Book_drop f fd) (M : Meth K c.Book "drop" f) (G_is_name : Fn2 P w K mg base "is_name" 1 ["name"] (sp_is_name c)) (e_Missing : mg "Missing" = some (.ref c.Missing) ∧ ExcC K c.Missing) (oc_Book : L2.Cls K c.Book) (na_Book_marks : NoAttr K c.Book "marks")  : Mt2M P w K mg base c.Book "drop" 2 ["self", "work", "hand"] (sp_Book_drop c) :=
  ⟨f, fd, fo_Book_drop c F G_is_name e_Missing oc_Book na_Book_marks , M, F.binds fun _ _ _ _ _ _ us hl => by obtain ⟨_, _, _, rfl⟩ := len3 hl; exact rfl⟩
abbrev s_law_names : Stmt := top 19
theorem sc_law_names : FnScope ["_law_cell_here", "_law_many", "_law_some", "_law_size", "_law_at", "_law_base", "_law_names_here", "_law_k", "_law_name", "_law_j"] ["_law_cell_here", "_law_many"] (defScope s_law_names) := ⟨rfl, rfl, rfl, by decide +kernel, rfl, by decide +kernel, by decide +kernel⟩
theorem d_law_names {f : Addr} {cdv : Value} {A : Around} {outer : List Env} {s : Shared} {H : Hp} {E : XK} {F0 : Hp} (c : Cls) (hr : Room 0 (A.deeper (envOfC "_law_names" (defScope s_law_names) s.heap.objs.size f cdv))) (b_range : mg "range" = none) (b_int : mg "int" = none) : QSs (cxOf (CX1 P w) P w K mg base ["_law_cell_here", "_law_many", "_law_some", "_law_size", "_law_at", "_law_base", "_law_names_here", "_law_k", "_law_name", "_law_j"] "_law_names" (defScope s_law_names) f cdv A outer s H E) F0 H (defBody s_law_names) (rd_law_names K c ) := by
  have nd := sc_law_names.nd
  have hu : (A.deeper (envOfC "_law_names" (defScope s_law_names) s.heap.objs.size f cdv)).units + 21 < cLine := by have := hr.units; omega
  exact (qss_cons (by exact (qs_set (i := 2) nd rfl (by trivial) (by exact qe_str)))
 (by exact (qss_cons (by exact (qs_set (i := 3) nd rfl (by trivial) (by exact (qe_bin (fun _ => o_add) qe_int (qe_bin (fun _ => o_mod) (qe_var (i := 0) rfl (by trivial)) qe_int)))))
 (by exact (qss_cons (by exact (qs_set (i := 4) nd rfl (by trivial) (by exact (qe_bin (fun _ => o_mod) (qe_bin (fun _ => o_div) (qe_var (i := 0) rfl (by trivial)) qe_int) (qe_var (i := 3) rfl (by trivial))))))
 (by exact (qss_cons (by exact (qs_frz (by exact (qs_setC (i := 5) nd rfl rfl (own := ["_law_k"]) (N' := ["_law_k", "_law_cell_here"]) (by show CpOk ["_law_cell_here", "_law_many", "_law_some", "_law_size", "_law_at", "_law_base", "_law_names_here", "_law_k", "_law_name", "_law_j"] _ ["_law_k"] [0] (defScope s_law_names) ["_law_k", "_law_cell_here"]; exact ⟨rfl, by decide +kernel, by decide +kernel, by decide +kernel, rfl, by decide +kernel⟩) rfl (by exact (qic (qi_rng1 rfl b_range (qa_cons qe_int qa_nil)))) (fun C s₀ H₀ fp F0 H0 => by exact (qg_name (i := 0) (show (["_law_k", "_law_cell_here"] : List Str).Nodup by decide +kernel) rfl (by trivial))) (fun C s₀ H₀ fp F0 H0 => by exact qts_nil) (fun C s₀ H₀ fp F0 H0 => by exact (qe_bin (fun _ => o_mod) (qe_bin (fun _ => o_add) (qe_bin (fun _ => o_div) (qe_bin (fun _ => o_div) (qe_var (i := 1) rfl (by trivial)) qe_int) (qe_bin (fun _ => o_add) (qe_var (i := 0) rfl (by trivial)) qe_int)) (qe_bin (fun _ => o_mul) (qe_bin (fun _ => o_mul) qe_int (qe_var (i := 0) rfl (by trivial))) (qe_var (i := 0) rfl (by trivial)))) qe_int))))))
 (by exact (qss_cons (by exact (qs_setF (i := 6) nd rfl (by trivial) (by exact (qf_lst qa_nil))))
 (by exact (qss_cons (by exact (qs_rng1 rfl rfl b_range (by exact (qa_cons (qe_var (i := 1) rfl (by trivial)) qa_nil)) (by exact (qg_name (i := 7) nd rfl (by trivial)))
 (by exact (qss_cons (by exact (qs_set (i := 8) nd rfl (by trivial) (by exact qe_str)))
 (by exact (qss_cons (by exact (qs_rng1 rfl rfl b_range (by exact (qa_cons (qe_var (i := 3) rfl (by trivial)) qa_nil)) (by exact (qg_name (i := 9) nd rfl (by trivial)))
 (by exact (qss_one (by exact (qs_set (i := 8) nd rfl (by trivial) (by exact (qe_bin (fun _ => o_add) (qe_var (i := 8) rfl (by trivial)) (qe_ix (qe_var (i := 2) rfl (by trivial)) (qe_bin (fun _ => o_mod) (qe_bin (fun _ => o_add) (qe_ix (qe_var (i := 5) rfl (by trivial)) (qe_var (i := 9) rfl (by trivial)) (fun _ _ => rfl)) (qe_bin (fun _ => o_mul) (qe_bin (fun _ => o_mul) (qe_bin (fun _ => o_add) qe_int (qe_bin (fun _ => o_mul) (qe_bin (fun _ => o_mod) (qe_bin (fun _ => o_div) (qe_var (i := 0) rfl (by trivial)) qe_int) qe_int) qe_int)) (qe_var (i := 7) rfl (by trivial))) (qe_callT (fun _ => q_int) rfl b_int boot_int (qa_cons (qe_cmp (fun _ => o_eq hu) (qe_var (i := 9) rfl (by trivial)) (qe_var (i := 4) rfl (by trivial)) (nomark _)) qa_nil)))) qe_int) (fun _ _ => rfl))))))))))
 (by exact (qss_cons (by exact (qs_if (by exact (qt_w (qw_and (qt_cmp (fun _ => o_eq hu) (qe_bin (fun _ => o_mod) (qe_bin (fun _ => o_div) (qe_var (i := 0) rfl (by trivial)) qe_int) qe_int) qe_int (nomark _)) (qw_and1 (qt_cmp (fun _ => o_le) (qe_var (i := 1) rfl (by trivial)) qe_int (nomark _))))))
 (by exact (qss_one (by exact (qs_set (i := 8) nd rfl (by trivial) (by exact (qe_join (qe_of (by exact (qf_comp (own := ["_law_one"]) (N' := ["_law_one", "_law_some"]) (by show CpOk ["_law_cell_here", "_law_many", "_law_some", "_law_size", "_law_at", "_law_base", "_law_names_here", "_law_k", "_law_name", "_law_j"] _ ["_law_one"] [2] (defScope s_law_names) ["_law_one", "_law_some"]; exact ⟨rfl, by decide +kernel, by decide +kernel, by decide +kernel, rfl, by decide +kernel⟩) rfl (by exact (qic (qi_seq (qe_of (by exact (qf_slice (qe_var (i := 5) rfl (by trivial)) qo_no (qo_is (qe_bin (fun _ => o_add) (qe_var (i := 7) rfl (by trivial)) qe_int)))))))) (fun C s₀ H₀ fp F0 H0 => by exact (qg_name (i := 0) (show (["_law_one", "_law_some"] : List Str).Nodup by decide +kernel) rfl (by trivial))) (fun C s₀ H₀ fp F0 H0 => by exact qts_nil) (fun C s₀ H₀ fp F0 H0 => by exact (qe_ix (qe_var (i := 1) rfl (by trivial)) (qe_var (i := 0) rfl (by trivial)) (fun _ _ => rfl))))))))))))
 (by exact qss_nil)))
 (by exact (qss_one (by exact (qs_own (i := 6) (fun _ => ow_append) PySem.F.slot_list_append PySem.F.type_list_append rfl (by trivial) (by exact (qa_cons (qe_var (i := 8) rfl (by trivial)) qa_nil))))))))))))))
 (by exact (qss_one (by exact (qs_ret (by exact (qe_var (i := 6) rfl (by trivial))))))))))))))))))
theorem fo_law_names {f : Addr} {fd : FuncData} (c : Cls) (F : Fun K "_law_names" "_law_names" s_law_names f fd) (b_range : mg "range" = none) (b_int : mg "int" = none)  : FnOk P w K mg base (CX1 P w) 1 f fd ["_law_cell_here", "_law_many"] (spUp K (sp_law_names c)) :=
  fn2 F sc_law_names (fun _ _ _ h => l_law_names h) fun cdv A outer s H E hr F0 => ⟨rd_law_names K c , d_law_names c hr b_range b_int, fun ds Q Ex h => r_law_names  h⟩
theorem ok_law_names {f : Addr} {fd : FuncData} (c : Cls) (F : Fun K "_law_names" "_law_names" s_law_names f fd) (hm : mg "_law_names" = some (.ref f)) (b_range : mg "range" = none) (b_int : mg "int" = none)  : Fn2 P w K mg base "_law_names" 1 ["_law_cell_here", "_law_many"] (sp_law_names c) :=
  ⟨f, fd, fo_law_names c F  b_range b_int , hm, F.kp, F.binds fun _ _ _ _ _ _ us hl => by obtain ⟨_, _, rfl⟩ := len2 hl; exact rfl⟩
abbrev s_Book___init__ : Stmt := inClass (top 15) 0
theorem sc_Book___init__ : FnScope ["self", "most"] ["self", "most"] (defScope s_Book___init__) := ⟨rfl, rfl, rfl, by decide +kernel, rfl, by decide +kernel, by decide +kernel⟩
theorem d_Book___init__ {f : Addr} {cdv : Value} {A : Around} {outer : List Env} {s : Shared} {H H1 : Hp} {E : XK} {F0 : Hp} (c : Cls) (hr : Room 0 (A.deeper (envOfC "Book.__init__" (defScope s_Book___init__) s.heap.objs.size f cdv))) (oc_Book : L2.Cls K c.Book) (na_Book_most : NoAttr K c.Book "most") (na_Book_marks : NoAttr K c.Book "marks") : QSs (cxOf (CX1 P w) P w K mg base ["self", "most"] "Book.__init__" (defScope s_Book___init__) f cdv A outer s H E) F0 H1 (defBody s_Book___init__) (rd_Book___init__ K c) := by
  have nd := sc_Book___init__.nd
  have hu : (A.deeper (envOfC "Book.__init__" (defScope s_Book___init__) s.heap.objs.size f cdv)).units + 21 < cLine := by have := hr.units; omega
  exact (qss_cons (by exact (qs_setA (i := 0) oc_Book na_Book_most (by exact (qe_var (i := 1) rfl (by trivial))) rfl (by trivial)))
 (by exact (qss_one (by exact (qs_setAN (i := 0) oc_Book na_Book_marks (by exact qn_dictT) rfl (by trivial))))))
theorem fo_Book___init__ {f : Addr} {fd : FuncData} (c : Cls) (F : Fun K "__init__" "Book.__init__" s_Book___init__ f fd) (oc_Book : L2.Cls K c.Book) (na_Book_most : NoAttr K c.Book "most") (na_Book_marks : NoAttr K c.Book "marks")  : FnOk P w K mg base (CX1 P w) 1 f fd ["self", "most"] (spUpM K (sp_Book c)) :=
  fn2M F sc_Book___init__ (fun _ _ _ _ h => l_Book h) fun cdv A outer s H E hr F0 H0 => ⟨rd_Book___init__ K c, d_Book___init__ c hr oc_Book na_Book_most na_Book_marks, fun a bs t ds Q Ex h => r_Book  h⟩
theorem ok_Book___init__ {f : Addr} {fd : FuncData} (c : Cls) (F : Fun K "__init__" "Book.__init__" s_Book___init__ f fd) (M : Mk K c.Book f) (hm : mg "Book" = some (.ref c.Book)) (oc_Book : L2.Cls K c.Book) (na_Book_most : NoAttr K c.Book "most") (na_Book_marks : NoAttr K c.Book "marks")  : Mk2M P w K mg base "Book" c.Book 1 ["self", "most"] (sp_Book c) :=
  ⟨⟨f, fd, fo_Book___init__ c F oc_Book na_Book_most na_Book_marks , M, hm, F.binds fun _ _ _ _ _ _ us hl => by obtain ⟨_, _, rfl⟩ := len2 hl; exact rfl⟩, fun _ _ _ h => n_Book h⟩
abbrev s_Book_rows : Stmt := inClass (top 15) 3
theorem sc_Book_rows : FnScope ["self"] ["self"] (defScope s_Book_rows) := ⟨rfl, rfl, rfl, by decide +kernel, rfl, by decide +kernel, by decide +kernel⟩
theorem d_Book_rows {f : Addr} {cdv : Value} {A : Around} {outer : List Env} {s : Shared} {H : Hp} {E : XK} {F0 : Hp} (c : Cls) (hr : Room 0 (A.deeper (envOfC "Book.rows" (defScope s_Book_rows) s.heap.objs.size f cdv))) (b_sorted : mg "sorted" = none) (oc_Book : L2.Cls K c.Book) (na_Book_marks : NoAttr K c.Book "marks") : QSs (cxOf (CX1 P w) P w K mg base ["self"] "Book.rows" (defScope s_Book_rows) f cdv A outer s H E) F0 H (defBody s_Book_rows) (rd_Book_rows K c ) := by
  have nd := sc_Book_rows.nd
  have hu : (A.deeper (envOfC "Book.rows" (defScope s_Book_rows) s.heap.objs.size f cdv)).units + 21 < cLine := by have := hr.units; omega
  exact (qss_one (by exact (qs_ret (by exact (qe_of (by exact (qf_comp (own := ["work", "hand"]) (N' := ["work", "hand", "self"]) (by show CpOk ["self"] _ ["work", "hand"] [0] (defScope s_Book_rows) ["work", "hand", "self"]; exact ⟨rfl, by decide +kernel, by decide +kernel, by decide +kernel, rfl, by decide +kernel⟩) rfl (by exact (qic (qi_seq (qe_of (by exact (qf_srtDT rfl rfl b_sorted (qa_cons (qe_fld oc_Book na_Book_marks (qe_var (i := 0) rfl (by trivial))) qa_nil))))))) (fun C s₀ H₀ fp F0 H0 => by exact (qg_tup rfl (qgs_cons (qg_name (i := 0) (show (["work", "hand", "self"] : List Str).Nodup by decide +kernel) rfl (by trivial)) (qgs_cons (qg_name (i := 1) (show (["work", "hand", "self"] : List Str).Nodup by decide +kernel) rfl (by trivial)) qgs_nil)))) (fun C s₀ H₀ fp F0 H0 => by exact qts_nil) (fun C s₀ H₀ fp F0 H0 => by exact (qe_tup (qa_cons (qe_var (i := 0) rfl (by trivial)) (qa_cons (qe_var (i := 1) rfl (by trivial)) (qa_cons (qe_ixT (Nat.lt_of_le_of_lt (Nat.add_le_add_left (show 1 ≤ 21 by decide) _) hu) (qe_fld oc_Book na_Book_marks (qe_var (i := 2) rfl (by trivial))) (qe_tup (qa_cons (qe_var (i := 0) rfl (by trivial)) (qa_cons (qe_var (i := 1) rfl (by trivial)) qa_nil)))) qa_nil))))))))))))
theorem fo_Book_rows {f : Addr} {fd : FuncData} (c : Cls) (F : Fun K "rows" "Book.rows" s_Book_rows f fd) (b_sorted : mg "sorted" = none) (oc_Book : L2.Cls K c.Book) (na_Book_marks : NoAttr K c.Book "marks")  : FnOk P w K mg base (CX1 P w) 1 f fd ["self"] (spUp K (sp_Book_rows c)) :=
  fn2 F sc_Book_rows (fun _ _ _ h => l_Book_rows h) fun cdv A outer s H E hr F0 => ⟨rd_Book_rows K c , d_Book_rows c hr b_sorted oc_Book na_Book_marks, fun ds Q Ex h => r_Book_rows  h⟩
theorem ok_Book_rows {f : Addr} {fd : FuncData} (c : Cls) (F : Fun K "rows" "Book.rows" s_Book_rows f fd) (M : Meth K c.Book "rows" f) (b_sorted : mg "sorted" = none) (oc_Book : L2.Cls K c.Book) (na_Book_marks : NoAttr K c.Book "marks")  : Mt2 P w K mg base c.Book "rows" 1 ["self"] (sp_Book_rows c) :=
  ⟨f, fd, fo_Book_rows c F b_sorted oc_Book na_Book_marks , M, F.binds fun _ _ _ _ _ _ us hl => by obtain ⟨_, rfl⟩ := len1 hl; exact rfl⟩
abbrev s_law_cell : Stmt := top 17
theorem sc_law_cell : FnScope ["_law_script", "_law_k", "_law_number"] ["_law_script", "_law_k"] (defScope s_law_cell) := ⟨rfl, rfl, rfl, by decide +kernel, rfl, by decide +kernel, by decide +kernel⟩
theorem d_law_cell {f : Addr} {cdv : Value} {A : Around} {outer : List Env} {s : Shared} {H : Hp} {E : XK} {F0 : Hp} (c : Cls) (hr : Room 0 (A.deeper (envOfC "_law_cell" (defScope s_law_cell) s.heap.objs.size f cdv))) (b_len : mg "len" = none) : QSs (cxOf (CX1 P w) P w K mg base ["_law_script", "_law_k", "_law_number"] "_law_cell" (defScope s_law_cell) f cdv A outer s H E) F0 H (defBody s_law_cell) (rd_law_cell K c ) := by
  have nd := sc_law_cell.nd
  have hu : (A.deeper (envOfC "_law_cell" (defScope s_law_cell) s.heap.objs.size f cdv)).units + 21 < cLine := by have := hr.units; omega
  exact (qss_cons (by exact (qs_if (by exact (qt_cmp (fun _ => o_lt) (qe_var (i := 1) rfl (by trivial)) (qe_callB (fun _ => q_len) rfl b_len boot_len (qa_cons (qe_var (i := 0) rfl (by trivial)) qa_nil)) (nomark _)))
 (by exact (qss_one (by exact (qs_ret (by exact (qe_ix (qe_var (i := 0) rfl (by trivial)) (qe_var (i := 1) rfl (by trivial)) (fun _ _ => rfl)))))))
 (by exact qss_nil)))
 (by exact (qss_cons (by exact (qs_set (i := 2) nd rfl (by trivial) (by exact (qe_bin (fun _ => o_add) (qe_bin (fun _ => o_mul) (qe_var (i := 1) rfl (by trivial)) qe_int) qe_int))))
 (by exact (qss_cons (by exact (qs_if (by exact (qt_cmp (fun _ => o_gt) (qe_callB (fun _ => q_len) rfl b_len boot_len (qa_cons (qe_var (i := 0) rfl (by trivial)) qa_nil)) qe_int (nomark _)))
 (by exact (qss_one (by exact (qs_set (i := 2) nd rfl (by trivial) (by exact (qe_bin (fun _ => o_mod) (qe_bin (fun _ => o_add) (qe_bin (fun _ => o_mul) (qe_ix (qe_var (i := 0) rfl (by trivial)) (qe_bin (fun _ => o_mod) (qe_bin (fun _ => o_mul) (qe_var (i := 1) rfl (by trivial)) qe_int) (qe_callB (fun _ => q_len) rfl b_len boot_len (qa_cons (qe_var (i := 0) rfl (by trivial)) qa_nil))) (fun _ _ => rfl)) qe_int) (qe_bin (fun _ => o_mul) (qe_var (i := 1) rfl (by trivial)) qe_int)) qe_int))))))
 (by exact qss_nil)))
 (by exact (qss_one (by exact (qs_ret (by exact (qe_bin (fun _ => o_mod) (qe_bin (fun _ => o_mul) (qe_var (i := 2) rfl (by trivial)) (qe_var (i := 2) rfl (by trivial))) qe_int)))))))))))
theorem fo_law_cell {f : Addr} {fd : FuncData} (c : Cls) (F : Fun K "_law_cell" "_law_cell" s_law_cell f fd) (b_len : mg "len" = none)  : FnOk P w K mg base (CX1 P w) 1 f fd ["_law_script", "_law_k"] (spUp K (sp_law_cell c)) :=
  fn2 F sc_law_cell (fun _ _ _ h => l_law_cell h) fun cdv A outer s H E hr F0 => ⟨rd_law_cell K c , d_law_cell c hr b_len, fun ds Q Ex h => r_law_cell  h⟩
theorem ok_law_cell {f : Addr} {fd : FuncData} (c : Cls) (F : Fun K "_law_cell" "_law_cell" s_law_cell f fd) (hm : mg "_law_cell" = some (.ref f)) (b_len : mg "len" = none)  : Fn2 P w K mg base "_law_cell" 1 ["_law_script", "_law_k"] (sp_law_cell c) :=
  ⟨f, fd, fo_law_cell c F  b_len , hm, F.kp, F.binds fun _ _ _ _ _ _ us hl => by obtain ⟨_, _, rfl⟩ := len2 hl; exact rfl⟩
abbrev s_law_odd_name : Stmt := top 20
theorem sc_law_odd_name : FnScope ["_law_name", "_law_x", "_law_at", "_law_cut", "_law_some"] ["_law_name", "_law_x"] (defScope s_law_odd_name) := ⟨rfl, rfl, rfl, by decide +kernel, rfl, by decide +kernel, by decide +kernel⟩
theorem d_law_odd_name {f : Addr} {cdv : Value} {A : Around} {outer : List Env} {s : Shared} {H : Hp} {E : XK} {F0 : Hp} (c : Cls) (hr : Room 0 (A.deeper (envOfC "_law_odd_name" (defScope s_law_odd_name) s.heap.objs.size f cdv))) (b_len : mg "len" = none) : QSs (cxOf (CX1 P w) P w K mg base ["_law_name", "_law_x", "_law_at", "_law_cut", "_law_some"] "_law_odd_name" (defScope s_law_odd_name) f cdv A outer s H E) F0 H (defBody s_law_odd_name) (rd_law_odd_name K c ) := by
  have nd := sc_law_odd_name.nd
  have hu : (A.deeper (envOfC "_law_odd_name" (defScope s_law_odd_name) s.heap.objs.size f cdv)).units + 21 < cLine := by have := hr.units; omega
  exact (qss_cons (by exact (qs_set (i := 2) nd rfl (by trivial) (by exact (qe_bin (fun _ => o_mod) (qe_bin (fun _ => o_div) (qe_var (i := 1) rfl (by trivial)) qe_int) (qe_bin (fun _ => o_add) (qe_callB (fun _ => q_len) rfl b_len boot_len (qa_cons (qe_var (i := 0) rfl (by trivial)) qa_nil)) qe_int)))))
 (by exact (qss_cons (by exact (qs_set (i := 3) nd rfl (by trivial) (by exact (qe_sliceS (qe_var (i := 0) rfl (by trivial)) qo_no (qo_is qe_int)))))
 (by exact (qss_cons (by exact (qs_set (i := 4) nd rfl (by trivial) (by exact (qe_of (by exact (qf_lst (qa_cons qe_str (qa_cons qe_str (qa_cons (qe_bin (fun _ => o_add) (qe_sliceS (qe_var (i := 0) rfl (by trivial)) qo_no (qo_is (qe_var (i := 2) rfl (by trivial)))) qe_str) (qa_cons (qe_bin (fun _ => o_add) (qe_bin (fun _ => o_add) (qe_sliceS (qe_var (i := 3) rfl (by trivial)) qo_no (qo_is (qe_var (i := 2) rfl (by trivial)))) qe_str) (qe_sliceS (qe_var (i := 3) rfl (by trivial)) (qo_is (qe_var (i := 2) rfl (by trivial))) qo_no)) (qa_cons (qe_bin (fun _ => o_add) (qe_bin (fun _ => o_add) (qe_sliceS (qe_var (i := 3) rfl (by trivial)) qo_no (qo_is (qe_var (i := 2) rfl (by trivial)))) qe_str) (qe_sliceS (qe_var (i := 3) rfl (by trivial)) (qo_is (qe_var (i := 2) rfl (by trivial))) qo_no)) (qa_cons qe_int (qa_cons qe_non (qa_cons qe_bl qa_nil))))))))))))))
 (by exact (qss_cons (by exact (qs_set (i := 4) nd rfl (by trivial) (by exact (qe_of (by exact (qf_cat (qe_var (i := 4) rfl (by trivial)) (qe_of (by exact (qf_lst (qa_cons (qe_of (by exact (qf_lst (qa_cons (qe_var (i := 0) rfl (by trivial)) qa_nil)))) (qa_cons (qe_upper (qe_sliceS (qe_var (i := 0) rfl (by trivial)) qo_no (qo_is qe_int))) (qa_cons (qe_bin (fun _ => o_add) (qe_bin (fun _ => o_add) (qe_sliceS (qe_var (i := 3) rfl (by trivial)) qo_no (qo_is (qe_var (i := 2) rfl (by trivial)))) qe_str) (qe_sliceS (qe_var (i := 3) rfl (by trivial)) (qo_is (qe_var (i := 2) rfl (by trivial))) qo_no)) (qa_cons (qe_bin (fun _ => o_add) (qe_bin (fun _ => o_add) (qe_sliceS (qe_var (i := 3) rfl (by trivial)) qo_no (qo_is (qe_var (i := 2) rfl (by trivial)))) qe_str) (qe_sliceS (qe_var (i := 3) rfl (by trivial)) (qo_is (qe_var (i := 2) rfl (by trivial))) qo_no)) qa_nil)))))))))))))
 (by exact (qss_one (by exact (qs_ret (by exact (qe_ix (qe_var (i := 4) rfl (by trivial)) (qe_bin (fun _ => o_mod) (qe_var (i := 1) rfl (by trivial)) qe_int) (fun _ _ => rfl))))))))))))))
theorem fo_law_odd_name {f : Addr} {fd : FuncData} (c : Cls) (F : Fun K "_law_odd_name" "_law_odd_name" s_law_odd_name f fd) (b_len : mg "len" = none)  : FnOk P w K mg base (CX1 P w) 1 f fd ["_law_name", "_law_x"] (spUp K (sp_law_odd_name c)) :=
  fn2 F sc_law_odd_name (fun _ _ _ h => l_law_odd_name h) fun cdv A outer s H E hr F0 => ⟨rd_law_odd_name K c , d_law_odd_name c hr b_len, fun ds Q Ex h => r_law_odd_name  h⟩
theorem ok_law_odd_name {f : Addr} {fd : FuncData} (c : Cls) (F : Fun K "_law_odd_name" "_law_odd_name" s_law_odd_name f fd) (hm : mg "_law_odd_name" = some (.ref f)) (b_len : mg "len" = none)  : Fn2 P w K mg base "_law_odd_name" 1 ["_law_name", "_law_x"] (sp_law_odd_name c) :=
  ⟨f, fd, fo_law_odd_name c F  b_len , hm, F.kp, F.binds fun _ _ _ _ _ _ us hl => by obtain ⟨_, _, rfl⟩ := len2 hl; exact rfl⟩
abbrev s_law_class : Stmt := top 22
theorem sc_law_class : FnScope ["_law_book", "_law_way", "_law_work", "_law_hand", "_law_mark", "_law_told", "e", "_law_some", "_law_good"] ["_law_book", "_law_way", "_law_work", "_law_hand", "_law_mark"] (defScope s_law_class) := ⟨rfl, rfl, rfl, by decide +kernel, rfl, by decide +kernel, by decide +kernel⟩
theorem d_law_class {f : Addr} {cdv : Value} {A : Around} {outer : List Env} {s : Shared} {H H1 : Hp} {E : XK} {F0 : Hp} (c : Cls) (hr : Room 2 (A.deeper (envOfC "_law_class" (defScope s_law_class) s.heap.objs.size f cdv))) (G_Book_put : Mt2M P w K mg base c.Book "put" 2 ["self", "work", "hand", "mark"] (sp_Book_put c)) (G_Book_drop : Mt2M P w K mg base c.Book "drop" 2 ["self", "work", "hand"] (sp_Book_drop c)) (b_isinstance : mg "isinstance" = none) (b_ValueError : mg "ValueError" = none) (b_len : mg "len" = none) (e_HallError : mg "HallError" = some (.ref c.HallError) ∧ ExcC K c.HallError) (e_NoName : mg "NoName" = some (.ref c.NoName) ∧ ExcC K c.NoName) (e_NoMark : mg "NoMark" = some (.ref c.NoMark) ∧ ExcC K c.NoMark) (e_Twice : mg "Twice" = some (.ref c.Twice) ∧ ExcC K c.Twice) (e_Missing : mg "Missing" = some (.ref c.Missing) ∧ ExcC K c.Missing) (e_Apart : mg "Apart" = some (.ref c.Apart) ∧ ExcC K c.Apart) (e_Few : mg "Few" = some (.ref c.Few) ∧ ExcC K c.Few) (e_NoRow : mg "NoRow" = some (.ref c.NoRow) ∧ ExcC K c.NoRow) (e_NoWork : mg "NoWork" = some (.ref c.NoWork) ∧ ExcC K c.NoWork) (oc_Book : L2.Cls K c.Book) : QSs (cxOf (CX1 P w) P w K mg base ["_law_book", "_law_way", "_law_work", "_law_hand", "_law_mark", "_law_told", "e", "_law_some", "_law_good"] "_law_class" (defScope s_law_class) f cdv A outer s H E) F0 H1 (defBody s_law_class) (rd_law_class K c) := by
  have nd := sc_law_class.nd
  have hu : (A.deeper (envOfC "_law_class" (defScope s_law_class) s.heap.objs.size f cdv)).units + 21 < cLine := by have := hr.units; omega
  exact (qss_cons (by exact (qs_set (i := 5) nd rfl (by trivial) (by exact qe_str)))
 (by exact (qss_cons (by exact (qs_tryA (i := 6) rfl rfl rfl nd rfl rfl rfl e_HallError.1 e_HallError.2 (fun F0 => by exact (qss_one (by exact (qs_if (by exact (qt_cmp (fun _ => o_eq hu) (qe_var (i := 1) rfl (by trivial)) qe_int (nomark _)))
 (by exact (qss_one (by exact (qs_expr (by exact (qe_methO (i := 0) G_Book_put oc_Book (hr.mono (by decide)) rfl (by trivial) (qa_cons (qe_var (i := 2) rfl (by trivial)) (qa_cons (qe_var (i := 3) rfl (by trivial)) (qa_cons (qe_var (i := 4) rfl (by trivial)) qa_nil)))))))))
 (by exact (qss_one (by exact (qs_expr (by exact (qe_methO (i := 0) G_Book_drop oc_Book (hr.mono (by decide)) rfl (by trivial) (qa_cons (qe_var (i := 2) rfl (by trivial)) (qa_cons (qe_var (i := 3) rfl (by trivial)) qa_nil))))))))))))
 (fun a F0 hA => by exact (qss_cons (by exact (qs_set (i := 7) nd rfl (by trivial) (by exact (qe_of (by exact (qf_lst (qa_cons (qe_isx (qe_var (i := 6) rfl (by trivial)) rfl b_isinstance rfl ⟨e_NoName.1, (clsB_exc e_NoName.2)⟩) (qa_cons (qe_isx (qe_var (i := 6) rfl (by trivial)) rfl b_isinstance rfl ⟨e_NoMark.1, (clsB_exc e_NoMark.2)⟩) (qa_cons (qe_isx (qe_var (i := 6) rfl (by trivial)) rfl b_isinstance rfl ⟨e_Twice.1, (clsB_exc e_Twice.2)⟩) (qa_cons (qe_isx (qe_var (i := 6) rfl (by trivial)) rfl b_isinstance rfl ⟨e_Missing.1, (clsB_exc e_Missing.2)⟩) qa_nil))))))))))
 (by exact (qss_cons (by exact (qs_set (i := 5) nd rfl (by trivial) (by exact qe_str)))
 (by exact (qss_cons (by exact (qs_set (i := 8) nd rfl (by trivial) (by exact (qe_and (qe_isv (qe_var (i := 6) rfl (by trivial)) rfl b_isinstance rfl b_ValueError) (qe_one (qe_not (qe_ist (pcl_cons rfl e_Apart.1 (pcl_cons rfl e_Few.1 (pcl_cons rfl e_NoRow.1 (pcl_cons rfl e_NoWork.1 pcl_nil)))) (by intro C hC; simp only [List.mem_cons, List.not_mem_nil, or_false] at hC; rcases hC with rfl | rfl | rfl | rfl <;> first | exact (clsB_exc e_Apart.2) | exact (clsB_exc e_Few.2) | exact (clsB_exc e_NoRow.2) | exact (clsB_exc e_NoWork.2)) (qe_var (i := 6) rfl (by trivial)) rfl b_isinstance (hl := (by show (4 : Nat) ≤ sizeLine; decide)))))))))
 (by exact (qss_one (by exact (qs_if (by exact (qt_w (qw_and (qt_val (qe_var (i := 8) rfl (by trivial))) (qw_and1 (qt_cmp (fun _ => o_eq hu) (qe_callB (fun _ => q_len) rfl b_len boot_len (qa_cons (qe_of (by exact (qf_compG (own := ["_law_x"]) (N' := ["_law_x"]) (by show CpOk ["_law_book", "_law_way", "_law_work", "_law_hand", "_law_mark", "_law_told", "e", "_law_some", "_law_good"] _ ["_law_x"] [] (defScope s_law_class) ["_law_x"]; exact ⟨rfl, by decide +kernel, by decide +kernel, by decide +kernel, rfl, by decide +kernel⟩) (by exact (qi_seqH hA (qe_var (i := 7) rfl (by trivial)))) (fun C s₀ H₀ fp F0 H0 => by exact (qg_name (i := 0) (show (["_law_x"] : List Str).Nodup by decide +kernel) rfl (by trivial))) (fun C s₀ H₀ fp F0 H0 => by exact (qts_one (qt_val (qe_var (i := 0) rfl (by trivial))))) (fun C s₀ H₀ fp F0 H0 => by exact (qe_var (i := 0) rfl (by trivial)))))) qa_nil)) qe_int (nomark _))))))
 (by exact (qss_one (by exact (qs_set (i := 5) nd rfl (by trivial) (by exact (qe_ix (qe_of (by exact (qf_lst (qa_cons qe_str (qa_cons qe_str (qa_cons qe_str (qa_cons qe_str qa_nil))))))) (qe_index (qe_var (i := 7) rfl (by trivial)) qe_bl) (fun _ _ => rfl)))))))
 (by exact qss_nil)))))))))))))
 (by exact (qss_one (by exact (qs_retM (by exact (qe_var (i := 5) rfl (by trivial))))))))))
theorem fo_law_class {f : Addr} {fd : FuncData} (c : Cls) (F : Fun K "_law_class" "_law_class" s_law_class f fd) (G_Book_put : Mt2M P w K mg base c.Book "put" 2 ["self", "work", "hand", "mark"] (sp_Book_put c)) (G_Book_drop : Mt2M P w K mg base c.Book "drop" 2 ["self", "work", "hand"] (sp_Book_drop c)) (b_isinstance : mg "isinstance" = none) (b_ValueError : mg "ValueError" = none) (b_len : mg "len" = none) (e_HallError : mg "HallError" = some (.ref c.HallError) ∧ ExcC K c.HallError) (e_NoName : mg "NoName" = some (.ref c.NoName) ∧ ExcC K c.NoName) (e_NoMark : mg "NoMark" = some (.ref c.NoMark) ∧ ExcC K c.NoMark) (e_Twice : mg "Twice" = some (.ref c.Twice) ∧ ExcC K c.Twice) (e_Missing : mg "Missing" = some (.ref c.Missing) ∧ ExcC K c.Missing) (e_Apart : mg "Apart" = some (.ref c.Apart) ∧ ExcC K c.Apart) (e_Few : mg "Few" = some (.ref c.Few) ∧ ExcC K c.Few) (e_NoRow : mg "NoRow" = some (.ref c.NoRow) ∧ ExcC K c.NoRow) (e_NoWork : mg "NoWork" = some (.ref c.NoWork) ∧ ExcC K c.NoWork) (oc_Book : L2.Cls K c.Book) (g1_NoName : PySem.W.findIn K (.ref c.NoName) "__getattribute__" = some (some (.builtin "BaseException.__getattribute__"))) (g2_NoName : PySem.W.findIn K (.ref c.NoName) "__getattr__" = some none) (g3_NoName : PySem.W.findIn K (.ref c.NoName) "__class__" = some (some (.builtin "object.__class__"))) (g4_NoName : PySem.W.mroIn K c.NoName (.type "object") = some true) (g5_NoName : PySem.W.mroIn K c.NoName (.type "BaseException") = some true) (v_NoName : PySem.W.mroIn K c.NoName (.type "ValueError") = some true) (s_NoName_HallError : excSub K c.NoName c.HallError = true) (s_NoName_NoName : excSub K c.NoName c.NoName = decide (0 = 0)) (s_NoName_NoMark : excSub K c.NoName c.NoMark = decide (0 = 1)) (s_NoName_Twice : excSub K c.NoName c.Twice = decide (0 = 2)) (s_NoName_Missing : excSub K c.NoName c.Missing = decide (0 = 3)) (s_NoName_Apart : excSub K c.NoName c.Apart = false) (s_NoName_Few : excSub K c.NoName c.Few = false) (s_NoName_NoRow : excSub K c.NoName c.NoRow = false) (s_NoName_NoWork : excSub K c.NoName c.NoWork = false) (g1_NoMark : PySem.W.findIn K (.ref c.NoMark) "__getattribute__" = some (some (.builtin "BaseException.__getattribute__"))) (g2_NoMark : PySem.W.findIn K (.ref c.NoMark) "__getattr__" = some none) (g3_NoMark : PySem.W.findIn K (.ref c.NoMark) "__class__" = some (some (.builtin "object.__class__"))) (g4_NoMark : PySem.W.mroIn K c.NoMark (.type "object") = some true) (g5_NoMark : PySem.W.mroIn K c.NoMark (.type "BaseException") = some true) (v_NoMark : PySem.W.mroIn K c.NoMark (.type "ValueError") = some true) (s_NoMark_HallError : excSub K c.NoMark c.HallError = true) (s_NoMark_NoName : excSub K c.NoMark c.NoName = decide (1 = 0)) (s_NoMark_NoMark : excSub K c.NoMark c.NoMark = decide (1 = 1)) (s_NoMark_Twice : excSub K c.NoMark c.Twice = decide (1 = 2)) (s_NoMark_Missing : excSub K c.NoMark c.Missing = decide (1 = 3)) (s_NoMark_Apart : excSub K c.NoMark c.Apart = false) (s_NoMark_Few : excSub K c.NoMark c.Few = false) (s_NoMark_NoRow : excSub K c.NoMark c.NoRow = false) (s_NoMark_NoWork : excSub K c.NoMark c.NoWork = false) (g1_Twice : PySem.W.findIn K (.ref c.Twice) "__getattribute__" = some (some (.builtin "BaseException.__getattribute__"))) (g2_Twice : PySem.W.findIn K (.ref c.Twice) "__getattr__" = some none) (g3_Twice : PySem.W.findIn K (.ref c.Twice) "__class__" = some (some (.builtin "object.__class__"))) (g4_Twice : PySem.W.mroIn K c.Twice (.type "object") = some true) (g5_Twice : PySem.W.mroIn K c.Twice (.type "BaseException") = some true) (v_Twice : PySem.W.mroIn K c.Twice (.type "ValueError") = some true) (s_Twice_HallError : excSub K c.Twice c.HallError = true) (s_Twice_NoName : excSub K c.Twice c.NoName = decide (2 = 0)) (s_Twice_NoMark : excSub K c.Twice c.NoMark = decide (2 = 1)) (s_Twice_Twice : excSub K c.Twice c.Twice = decide (2 = 2)) (s_Twice_Missing : excSub K c.Twice c.Missing = decide (2 = 3)) (s_Twice_Apart : excSub K c.Twice c.Apart = false) (s_Twice_Few : excSub K c.Twice c.Few = false) (s_Twice_NoRow : excSub K c.Twice c.NoRow = false) (s_Twice_NoWork : excSub K c.Twice c.NoWork = false) (g1_Missing : PySem.W.findIn K (.ref c.Missing) "__getattribute__" = some (some (.builtin "BaseException.__getattribute__"))) (g2_Missing : PySem.W.findIn K (.ref c.Missing) "__getattr__" = some none) (g3_Missing : PySem.W.findIn K (.ref c.Missing) "__class__" = some (some (.builtin "object.__class__"))) (g4_Missing : PySem.W.mroIn K c.Missing (.type "object") = some true) (g5_Missing : PySem.W.mroIn K c.Missing (.type "BaseException") = some true) (v_Missing : PySem.W.mroIn K c.Missing (.type "ValueError") = some true) (s_Missing_HallError : excSub K c.Missing c.HallError = true) (s_Missing_NoName : excSub K c.Missing c.NoName = decide (3 = 0)) (s_Missing_NoMark : excSub K c.Missing c.NoMark = decide (3 = 1)) (s_Missing_Twice : excSub K c.Missing c.Twice = decide (3 = 2)) (s_Missing_Missing : excSub K c.Missing c.Missing = decide (3 = 3)) (s_Missing_Apart : excSub K c.Missing c.Apart = false) (s_Missing_Few : excSub K c.Missing c.Few = false) (s_Missing_NoRow : excSub K c.Missing c.NoRow = false) (s_Missing_NoWork : excSub K c.Missing c.NoWork = false) : FnOk P w K mg base (CX1 P w) 3 f fd ["_law_book", "_law_way", "_law_work", "_law_hand", "_law_mark"] (spUpM K (sp_law_class c)) :=
  fn2M F sc_law_class (fun _ _ _ _ h => l_law_class h) fun cdv A outer s H E hr F0 H0 => ⟨rd_law_class K c, d_law_class c hr G_Book_put G_Book_drop b_isinstance b_ValueError b_len e_HallError e_NoName e_NoMark e_Twice e_Missing e_Apart e_Few e_NoRow e_NoWork oc_Book, fun a bs t ds Q Ex h => r_law_class ⟨⟨e_NoName.2, ⟨g1_NoName, g2_NoName, g3_NoName, g4_NoName, g5_NoName⟩, ve_of v_NoName, s_NoName_HallError, s_NoName_NoName, s_NoName_NoMark, s_NoName_Twice, s_NoName_Missing, s_NoName_Apart, s_NoName_Few, s_NoName_NoRow, s_NoName_NoWork⟩, ⟨e_NoMark.2, ⟨g1_NoMark, g2_NoMark, g3_NoMark, g4_NoMark, g5_NoMark⟩, ve_of v_NoMark, s_NoMark_HallError, s_NoMark_NoName, s_NoMark_NoMark, s_NoMark_Twice, s_NoMark_Missing, s_NoMark_Apart, s_NoMark_Few, s_NoMark_NoRow, s_NoMark_NoWork⟩, ⟨e_Twice.2, ⟨g1_Twice, g2_Twice, g3_Twice, g4_Twice, g5_Twice⟩, ve_of v_Twice, s_Twice_HallError, s_Twice_NoName, s_Twice_NoMark, s_Twice_Twice, s_Twice_Missing, s_Twice_Apart, s_Twice_Few, s_Twice_NoRow, s_Twice_NoWork⟩, ⟨e_Missing.2, ⟨g1_Missing, g2_Missing, g3_Missing, g4_Missing, g5_Missing⟩, ve_of v_Missing, s_Missing_HallError, s_Missing_NoName, s_Missing_NoMark, s_Missing_Twice, s_Missing_Missing, s_Missing_Apart, s_Missing_Few, s_Missing_NoRow, s_Missing_NoWork⟩⟩ h⟩
theorem ok_law_class {f : Addr} {fd : FuncData} (c : Cls) (F : Fun K "_law_class" "_law_class" s_law_class f fd) (hm : mg "_law_class" = some (.ref f)) (G_Book_put : Mt2M P w K mg base c.Book "put" 2 ["self", "work", "hand", "mark"] (sp_Book_put c)) (G_Book_drop : Mt2M P w K mg base c.Book "drop" 2 ["self", "work", "hand"] (sp_Book_drop c)) (b_isinstance : mg "isinstance" = none) (b_ValueError : mg "ValueError" = none) (b_len : mg "len" = none) (e_HallError : mg "HallError" = some (.ref c.HallError) ∧ ExcC K c.HallError) (e_NoName : mg "NoName" = some (.ref c.NoName) ∧ ExcC K c.NoName) (e_NoMark : mg "NoMark" = some (.ref c.NoMark) ∧ ExcC K c.NoMark) (e_Twice : mg "Twice" = some (.ref c.Twice) ∧ ExcC K c.Twice) (e_Missing : mg "Missing" = some (.ref c.Missing) ∧ ExcC K c.Missing) (e_Apart : mg "Apart" = some (.ref c.Apart) ∧ ExcC K c.Apart) (e_Few : mg "Few" = some (.ref c.Few) ∧ ExcC K c.Few) (e_NoRow : mg "NoRow" = some (.ref c.NoRow) ∧ ExcC K c.NoRow) (e_NoWork : mg "NoWork" = some (.ref c.NoWork) ∧ ExcC K c.NoWork) (oc_Book : L2.Cls K c.Book) (g1_NoName : PySem.W.findIn K (.ref c.NoName) "__getattribute__" = some (some (.builtin "BaseException.__getattribute__"))) (g2_NoName : PySem.W.findIn K (.ref c.NoName) "__getattr__" = some none) (g3_NoName : PySem.W.findIn K (.ref c.NoName) "__class__" = some (some (.builtin "object.__class__"))) (g4_NoName : PySem.W.mroIn K c.NoName (.type "object") = some true) (g5_NoName : PySem.W.mroIn K c.NoName (.type "BaseException") = some true) (v_NoName : PySem.W.mroIn K c.NoName (.type "ValueError") = some true) (s_NoName_HallError : excSub K c.NoName c.HallError = true) (s_NoName_NoName : excSub K c.NoName c.NoName = decide (0 = 0)) (s_NoName_NoMark : excSub K c.NoName c.NoMark = decide (0 = 1)) (s_NoName_Twice : excSub K c.NoName c.Twice = decide (0 = 2)) (s_NoName_Missing : excSub K c.NoName c.Missing = decide (0 = 3)) (s_NoName_Apart : excSub K c.NoName c.Apart = false) (s_NoName_Few : excSub K c.NoName c.Few = false) (s_NoName_NoRow : excSub K c.NoName c.NoRow = false) (s_NoName_NoWork : excSub K c.NoName c.NoWork = false) (g1_NoMark : PySem.W.findIn K (.ref c.NoMark) "__getattribute__" = some (some (.builtin "BaseException.__getattribute__"))) (g2_NoMark : PySem.W.findIn K (.ref c.NoMark) "__getattr__" = some none) (g3_NoMark : PySem.W.findIn K (.ref c.NoMark) "__class__" = some (some (.builtin "object.__class__"))) (g4_NoMark : PySem.W.mroIn K c.NoMark (.type "object") = some true) (g5_NoMark : PySem.W.mroIn K c.NoMark (.type "BaseException") = some true) (v_NoMark : PySem.W.mroIn K c.NoMark (.type "ValueError") = some true) (s_NoMark_HallError : excSub K c.NoMark c.HallError = true) (s_NoMark_NoName : excSub K c.NoMark c.NoName = decide (1 = 0)) (s_NoMark_NoMark : excSub K c.NoMark c.NoMark = decide (1 = 1)) (s_NoMark_Twice : excSub K c.NoMark c.Twice = decide (1 = 2)) (s_NoMark_Missing : excSub K c.NoMark c.Missing = decide (1 = 3)) (s_NoMark_Apart : excSub K c.NoMark c.Apart = false) (s_NoMark_Few : excSub K c.NoMark c.Few = false) (s_NoMark_NoRow : excSub K c.NoMark c.NoRow = false) (s_NoMark_NoWork : excSub K c.NoMark c.NoWork = false) (g1_Twice : PySem.W.findIn K (.ref c.Twice) "__getattribute__" = some (some (.builtin "BaseException.__getattribute__"))) (g2_Twice : PySem.W.findIn K (.ref c.Twice) "__getattr__" = some none) (g3_Twice : PySem.W.findIn K (.ref c.Twice) "__class__" = some (some (.builtin "object.__class__"))) (g4_Twice : PySem.W.mroIn K c.Twice (.type "object") = some true) (g5_Twice : PySem.W.mroIn K c.Twice (.type "BaseException") = some true) (v_Twice : PySem.W.mroIn K c.Twice (.type "ValueError") = some true) (s_Twice_HallError : excSub K c.Twice c.HallError = true) (s_Twice_NoName : excSub K c.Twice c.NoName = decide (2 = 0)) (s_Twice_NoMark : excSub K c.Twice c.NoMark = decide (2 = 1)) (s_Twice_Twice : excSub K c.Twice c.Twice = decide (2 = 2)) (s_Twice_Missing : excSub K c.Twice c.Missing = decide (2 = 3)) (s_Twice_Apart : excSub K c.Twice c.Apart = false) (s_Twice_Few : excSub K c.Twice c.Few = false) (s_Twice_NoRow : excSub K c.Twice c.NoRow = false) (s_Twice_NoWork : excSub K c.Twice c.NoWork = false) (g1_Missing : PySem.W.findIn K (.ref c.Missing) "__getattribute__" = some (some (.builtin "BaseException.__getattribute__"))) (g2_Missing : PySem.W.findIn K (.ref c.Missing) "__getattr__" = some none) (g3_Missing : PySem.W.findIn K (.ref c.Missing) "__class__" = some (some (.builtin "object.__class__"))) (g4_Missing : PySem.W.mroIn K c.Missing (.type "object") = some true) (g5_Missing : PySem.W.mroIn K c.Missing (.type "BaseException") = some true) (v_Missing : PySem.W.mroIn K c.Missing (.type "ValueError") = some true) (s_Missing_HallError : excSub K c.Missing c.HallError = true) (s_Missing_NoName : excSub K c.Missing c.NoName = decide (3 = 0)) (s_Missing_NoMark : excSub K c.Missing c.NoMark = decide (3 = 1)) (s_Missing_Twice : excSub K c.Missing c.Twice = decide (3 = 2)) (s_Missing_Missing : excSub K c.Missing c.Missing = decide (3 = 3)) (s_Missing_Apart : excSub K c.Missing c.Apart = false) (s_Missing_Few : excSub K c.Missing c.Few = false) (s_Missing_NoRow : excSub K c.Missing c.NoRow = false) (s_Missing_NoWork : excSub K c.Missing c.NoWork = false) : Fn2M P w K mg base "_law_class" 3 ["_law_book", "_law_way", "_law_work", "_law_hand", "_law_mark"] (sp_law_class c) :=
  ⟨f, fd, fo_law_class c F G_Book_put G_Book_drop b_isinstance b_ValueError b_len e_HallError e_NoName e_NoMark e_Twice e_Missing e_Apart e_Few e_NoRow e_NoWork oc_Book g1_NoName g2_NoName g3_NoName g4_NoName g5_NoName v_NoName s_NoName_HallError s_NoName_NoName s_NoName_NoMark s_NoName_Twice s_NoName_Missing s_NoName_Apart s_NoName_Few s_NoName_NoRow s_NoName_NoWork g1_NoMark g2_NoMark g3_NoMark g4_NoMark g5_NoMark v_NoMark s_NoMark_HallError s_NoMark_NoName s_NoMark_NoMark s_NoMark_Twice s_NoMark_Missing s_NoMark_Apart s_NoMark_Few s_NoMark_NoRow s_NoMark_NoWork g1_Twice g2_Twice g3_Twice g4_Twice g5_Twice v_Twice s_Twice_HallError s_Twice_NoName s_Twice_NoMark s_Twice_Twice s_Twice_Missing s_Twice_Apart s_Twice_Few s_Twice_NoRow s_Twice_NoWork g1_Missing g2_Missing g3_Missing g4_Missing g5_Missing v_Missing s_Missing_HallError s_Missing_NoName s_Missing_NoMark s_Missing_Twice s_Missing_Missing s_Missing_Apart s_Missing_Few s_Missing_NoRow s_Missing_NoWork, hm, F.kp, F.binds fun _ _ _ _ _ _ us hl => by obtain ⟨_, _, _, _, _, rfl⟩ := len5 hl; exact rfl⟩
abbrev s_law_odd_mark : Stmt := top 21
theorem sc_law_odd_mark : FnScope ["_law_x", "_law_most", "_law_some"] ["_law_x", "_law_most"] (defScope s_law_odd_mark) := ⟨rfl, rfl, rfl, by decide +kernel, rfl, by decide +kernel, by decide +kernel⟩
theorem d_law_odd_mark {f : Addr} {cdv : Value} {A : Around} {outer : List Env} {s : Shared} {H : Hp} {E : XK} {F0 : Hp} (c : Cls) (hr : Room 0 (A.deeper (envOfC "_law_odd_mark" (defScope s_law_odd_mark) s.heap.objs.size f cdv)))  : QSs (cxOf (CX1 P w) P w K mg base ["_law_x", "_law_most", "_law_some"] "_law_odd_mark" (defScope s_law_odd_mark) f cdv A outer s H E) F0 H (defBody s_law_odd_mark) (rd_law_odd_mark K c ) := by
  have nd := sc_law_odd_mark.nd
  have hu : (A.deeper (envOfC "_law_odd_mark" (defScope s_law_odd_mark) s.heap.objs.size f cdv)).units + 21 < cLine := by have := hr.units; omega
  exact (qss_cons (by exact (qs_set (i := 2) nd rfl (by trivial) (by exact (qe_of (by exact (qf_lst (qa_cons (qe_neg qe_int) (qa_cons (qe_bin (fun _ => o_add) (qe_var (i := 1) rfl (by trivial)) qe_int) (qa_cons (qe_bin (fun _ => o_add) (qe_bin (fun _ => o_add) (qe_var (i := 1) rfl (by trivial)) qe_int) (qe_bin (fun _ => o_mod) (qe_bin (fun _ => o_div) (qe_var (i := 0) rfl (by trivial)) qe_int) (qe_bin (fun _ => o_pow) qe_int qe_int))) (qa_cons (qe_bin (fun _ => o_sub) (qe_neg qe_int) (qe_bin (fun _ => o_div) (qe_var (i := 0) rfl (by trivial)) qe_int)) (qa_cons qe_bl (qa_cons qe_bl (qa_cons qe_str (qa_cons qe_non (qa_cons (qe_of (by exact (qf_lst (qa_cons qe_int qa_nil)))) qa_nil)))))))))))))))
 (by exact (qss_one (by exact (qs_ret (by exact (qe_ix (qe_var (i := 2) rfl (by trivial)) (qe_bin (fun _ => o_mod) (qe_var (i := 0) rfl (by trivial)) qe_int) (fun _ _ => rfl))))))))
theorem fo_law_odd_mark {f : Addr} {fd : FuncData} (c : Cls) (F : Fun K "_law_odd_mark" "_law_odd_mark" s_law_odd_mark f fd)   : FnOk P w K mg base (CX1 P w) 1 f fd ["_law_x", "_law_most"] (spUp K (sp_law_odd_mark c)) :=
  fn2 F sc_law_odd_mark (fun _ _ _ h => l_law_odd_mark h) fun cdv A outer s H E hr F0 => ⟨rd_law_odd_mark K c , d_law_odd_mark c hr , fun ds Q Ex h => r_law_odd_mark  h⟩
theorem ok_law_odd_mark {f : Addr} {fd : FuncData} (c : Cls) (F : Fun K "_law_odd_mark" "_law_odd_mark" s_law_odd_mark f fd) (hm : mg "_law_odd_mark" = some (.ref f))   : Fn2 P w K mg base "_law_odd_mark" 1 ["_law_x", "_law_most"] (sp_law_odd_mark c) :=
  ⟨f, fd, fo_law_odd_mark c F   , hm, F.kp, F.binds fun _ _ _ _ _ _ us hl => by obtain ⟨_, _, rfl⟩ := len2 hl; exact rfl⟩
abbrev s_law_right : Stmt := top 23
theorem sc_law_right : FnScope ["_law_book", "_law_names_here", "_law_most", "_law_xs", "_law_work", "_law_hand", "_law_other", "_law_odd", "_law_mark"] ["_law_book", "_law_names_here", "_law_most", "_law_xs"] (defScope s_law_right) := ⟨rfl, rfl, rfl, by decide +kernel, rfl, by decide +kernel, by decide +kernel⟩
theorem d_law_right {f : Addr} {cdv : Value} {A : Around} {outer : List Env} {s : Shared} {H H1 : Hp} {E : XK} {F0 : Hp} (c : Cls) (hr : Room 3 (A.deeper (envOfC "_law_right" (defScope s_law_right) s.heap.objs.size f cdv))) (G_law_odd_name : Fn2 P w K mg base "_law_odd_name" 1 ["_law_name", "_law_x"] (sp_law_odd_name c)) (G_law_class : Fn2M P w K mg base "_law_class" 3 ["_law_book", "_law_way", "_law_work", "_law_hand", "_law_mark"] (sp_law_class c)) (G_law_odd_mark : Fn2 P w K mg base "_law_odd_mark" 1 ["_law_x", "_law_most"] (sp_law_odd_mark c)) : QSs (cxOf (CX1 P w) P w K mg base ["_law_book", "_law_names_here", "_law_most", "_law_xs", "_law_work", "_law_hand", "_law_other", "_law_odd", "_law_mark"] "_law_right" (defScope s_law_right) f cdv A outer s H E) F0 H1 (defBody s_law_right) (rd_law_right K c) := by
  have nd := sc_law_right.nd
  have hu : (A.deeper (envOfC "_law_right" (defScope s_law_right) s.heap.objs.size f cdv)).units + 21 < cLine := by have := hr.units; omega
  exact (qss_cons (by exact (qs_asg (qe_var (i := 1) rfl (by trivial)) (qg_lst rfl (qgs_cons (qg_name (i := 4) nd rfl (by trivial)) (qgs_cons (qg_name (i := 5) nd rfl (by trivial)) (qgs_cons (qg_name (i := 6) nd rfl (by trivial)) qgs_nil))))))
 (by exact (qss_cons (by exact (qs_if (by exact (qt_cmp (fun _ => o_eq hu) (qe_bin (fun _ => o_mod) (qe_ix (qe_var (i := 3) rfl (by trivial)) qe_int (fun _ _ => rfl)) qe_int) qe_int (nomark _)))
 (by exact (qss_cons (by exact (qs_set (i := 7) nd rfl (by trivial) (by exact (qe_callF G_law_odd_name (hr.mono (by decide)) rfl (qa_cons (qe_var (i := 4) rfl (by trivial)) (qa_cons (qe_ix (qe_var (i := 3) rfl (by trivial)) qe_int (fun _ _ => rfl)) qa_nil))))))
 (by exact (qss_cons (by exact (qs_set (i := 8) nd rfl (by trivial) (by exact (qe_ix (qe_of (by exact (qf_lst (qa_cons qe_int (qa_cons (qe_callF G_law_odd_mark (hr.mono (by decide)) rfl (qa_cons (qe_ix (qe_var (i := 3) rfl (by trivial)) qe_int (fun _ _ => rfl)) (qa_cons (qe_var (i := 2) rfl (by trivial)) qa_nil))) qa_nil))))) (qe_bin (fun _ => o_mod) (qe_ix (qe_var (i := 3) rfl (by trivial)) qe_int (fun _ _ => rfl)) qe_int) (fun _ _ => rfl)))))
 (by exact (qss_one (by exact (qs_retM (by exact (qe_and (qe_cmp (fun _ => o_eq hu) (qe_callO (i := 0) G_law_class (hr.mono (by decide)) rfl rfl (by trivial) (qa_cons qe_int (qa_cons (qe_var (i := 7) rfl (by trivial)) (qa_cons (qe_var (i := 5) rfl (by trivial)) (qa_cons (qe_var (i := 8) rfl (by trivial)) qa_nil))))) qe_str (nomark _)) (qe_one (qe_cmp (fun _ => o_eq hu) (qe_callO (i := 0) G_law_class (hr.mono (by decide)) rfl rfl (by trivial) (qa_cons qe_int (qa_cons (qe_var (i := 4) rfl (by trivial)) (qa_cons (qe_var (i := 7) rfl (by trivial)) (qa_cons (qe_var (i := 8) rfl (by trivial)) qa_nil))))) qe_str (nomark _)))))))))))))
 (by exact qss_nil)))
 (by exact (qss_cons (by exact (qs_if (by exact (qt_cmp (fun _ => o_eq hu) (qe_bin (fun _ => o_mod) (qe_ix (qe_var (i := 3) rfl (by trivial)) qe_int (fun _ _ => rfl)) qe_int) qe_int (nomark _)))
 (by exact (qss_one (by exact (qs_retM (by exact (qe_cmp (fun _ => o_eq hu) (qe_callO (i := 0) G_law_class (hr.mono (by decide)) rfl rfl (by trivial) (qa_cons qe_int (qa_cons (qe_ix (qe_of (by exact (qf_lst (qa_cons (qe_var (i := 4) rfl (by trivial)) (qa_cons (qe_var (i := 6) rfl (by trivial)) qa_nil))))) (qe_bin (fun _ => o_mod) (qe_ix (qe_var (i := 3) rfl (by trivial)) qe_int (fun _ _ => rfl)) qe_int) (fun _ _ => rfl)) (qa_cons (qe_var (i := 5) rfl (by trivial)) (qa_cons (qe_callF G_law_odd_mark (hr.mono (by decide)) rfl (qa_cons (qe_ix (qe_var (i := 3) rfl (by trivial)) qe_int (fun _ _ => rfl)) (qa_cons (qe_var (i := 2) rfl (by trivial)) qa_nil))) qa_nil))))) qe_str (nomark _)))))))
 (by exact qss_nil)))
 (by exact (qss_cons (by exact (qs_if (by exact (qt_cmp (fun _ => o_eq hu) (qe_bin (fun _ => o_mod) (qe_ix (qe_var (i := 3) rfl (by trivial)) qe_int (fun _ _ => rfl)) qe_int) qe_int (nomark _)))
 (by exact (qss_one (by exact (qs_retM (by exact (qe_cmp (fun _ => o_eq hu) (qe_callO (i := 0) G_law_class (hr.mono (by decide)) rfl rfl (by trivial) (qa_cons qe_int (qa_cons (qe_var (i := 4) rfl (by trivial)) (qa_cons (qe_var (i := 5) rfl (by trivial)) (qa_cons (qe_bin (fun _ => o_mod) (qe_ix (qe_var (i := 3) rfl (by trivial)) qe_int (fun _ _ => rfl)) (qe_bin (fun _ => o_add) (qe_var (i := 2) rfl (by trivial)) qe_int)) qa_nil))))) qe_str (nomark _)))))))
 (by exact qss_nil)))
 (by exact (qss_cons (by exact (qs_if (by exact (qt_cmp (fun _ => o_eq hu) (qe_bin (fun _ => o_mod) (qe_ix (qe_var (i := 3) rfl (by trivial)) qe_int (fun _ _ => rfl)) qe_int) qe_int (nomark _)))
 (by exact (qss_cons (by exact (qs_if (by exact (qt_cmp (fun _ => o_ne hu) (qe_callO (i := 0) G_law_class (hr.mono (by decide)) rfl rfl (by trivial) (qa_cons qe_int (qa_cons (qe_bin (fun _ => o_add) (qe_var (i := 5) rfl (by trivial)) qe_str) (qa_cons (qe_var (i := 5) rfl (by trivial)) (qa_cons qe_int qa_nil))))) qe_str (nomark _)))
 (by exact (qss_one (by exact (qs_retM (by exact qe_bl)))))
 (by exact qss_nil)))
 (by exact (qss_one (by exact (qs_retM (by exact (qe_cmp (fun _ => o_eq hu) (qe_callO (i := 0) G_law_class (hr.mono (by decide)) rfl rfl (by trivial) (qa_cons qe_int (qa_cons (qe_var (i := 6) rfl (by trivial)) (qa_cons (qe_var (i := 5) rfl (by trivial)) (qa_cons qe_int qa_nil))))) qe_str (nomark _)))))))))
 (by exact qss_nil)))
 (by exact (qss_cons (by exact (qs_set (i := 7) nd rfl (by trivial) (by exact (qe_ix (qe_of (by exact (qf_lst (qa_cons qe_str (qa_cons qe_str (qa_cons qe_str (qa_cons qe_str (qa_cons qe_int (qa_cons qe_non (qa_cons qe_bl (qa_cons (qe_of (by exact (qf_lst (qa_cons (qe_var (i := 4) rfl (by trivial)) qa_nil)))) qa_nil))))))))))) (qe_bin (fun _ => o_mod) (qe_ix (qe_var (i := 3) rfl (by trivial)) qe_int (fun _ _ => rfl)) qe_int) (fun _ _ => rfl)))))
 (by exact (qss_one (by exact (qs_retM (by exact (qe_and (qe_cmp (fun _ => o_eq hu) (qe_callO (i := 0) G_law_class (hr.mono (by decide)) rfl rfl (by trivial) (qa_cons qe_int (qa_cons (qe_var (i := 7) rfl (by trivial)) (qa_cons (qe_var (i := 5) rfl (by trivial)) (qa_cons qe_int qa_nil))))) qe_str (nomark _)) (qe_one (qe_cmp (fun _ => o_eq hu) (qe_callO (i := 0) G_law_class (hr.mono (by decide)) rfl rfl (by trivial) (qa_cons qe_int (qa_cons (qe_var (i := 4) rfl (by trivial)) (qa_cons (qe_var (i := 7) rfl (by trivial)) (qa_cons qe_int qa_nil))))) qe_str (nomark _))))))))))))))))))))
theorem fo_law_right {f : Addr} {fd : FuncData} (c : Cls) (F : Fun K "_law_right" "_law_right" s_law_right f fd) (G_law_odd_name : Fn2 P w K mg base "_law_odd_name" 1 ["_law_name", "_law_x"] (sp_law_odd_name c)) (G_law_class : Fn2M P w K mg base "_law_class" 3 ["_law_book", "_law_way", "_law_work", "_law_hand", "_law_mark"] (sp_law_class c)) (G_law_odd_mark : Fn2 P w K mg base "_law_odd_mark" 1 ["_law_x", "_law_most"] (sp_law_odd_mark c))  : FnOk P w K mg base (CX1 P w) 4 f fd ["_law_book", "_law_names_here", "_law_most", "_law_xs"] (spUpM K (sp_law_right c)) :=
  fn2M F sc_law_right (fun _ _ _ _ h => l_law_right h) fun cdv A outer s H E hr F0 H0 => ⟨rd_law_right K c, d_law_right c hr G_law_odd_name G_law_class G_law_odd_mark, fun a bs t ds Q Ex h => r_law_right  h⟩
theorem ok_law_right {f : Addr} {fd : FuncData} (c : Cls) (F : Fun K "_law_right" "_law_right" s_law_right f fd) (hm : mg "_law_right" = some (.ref f)) (G_law_odd_name : Fn2 P w K mg base "_law_odd_name" 1 ["_law_name", "_law_x"] (sp_law_odd_name c)) (G_law_class : Fn2M P w K mg base "_law_class" 3 ["_law_book", "_law_way", "_law_work", "_law_hand", "_law_mark"] (sp_law_class c)) (G_law_odd_mark : Fn2 P w K mg base "_law_odd_mark" 1 ["_law_x", "_law_most"] (sp_law_odd_mark c))  : Fn2M P w K mg base "_law_right" 4 ["_law_book", "_law_names_here", "_law_most", "_law_xs"] (sp_law_right c) :=
  ⟨f, fd, fo_law_right c F G_law_odd_name G_law_class G_law_odd_mark , hm, F.kp, F.binds fun _ _ _ _ _ _ us hl => by obtain ⟨_, _, _, _, rfl⟩ := len4 hl; exact rfl⟩
abbrev s_law_stream : Stmt := top 18
theorem sc_law_stream : FnScope ["_law_cell_here", "_law_many", "_law_xs", "_law_number", "_law_k"] ["_law_cell_here", "_law_many"] (defScope s_law_stream) := ⟨rfl, rfl, rfl, by decide +kernel, rfl, by decide +kernel, by decide +kernel⟩
theorem d_law_stream {f : Addr} {cdv : Value} {A : Around} {outer : List Env} {s : Shared} {H : Hp} {E : XK} {F0 : Hp} (c : Cls) (hr : Room 0 (A.deeper (envOfC "_law_stream" (defScope s_law_stream) s.heap.objs.size f cdv))) (b_range : mg "range" = none) : QSs (cxOf (CX1 P w) P w K mg base ["_law_cell_here", "_law_many", "_law_xs", "_law_number", "_law_k"] "_law_stream" (defScope s_law_stream) f cdv A outer s H E) F0 H (defBody s_law_stream) (rd_law_stream K c ) := by
  have nd := sc_law_stream.nd
  have hu : (A.deeper (envOfC "_law_stream" (defScope s_law_stream) s.heap.objs.size f cdv)).units + 21 < cLine := by have := hr.units; omega
  exact (qss_cons (by exact (qs_setF (i := 2) nd rfl (by trivial) (by exact (qf_lst qa_nil))))
 (by exact (qss_cons (by exact (qs_set (i := 3) nd rfl (by trivial) (by exact (qe_bin (fun _ => o_mod) (qe_var (i := 0) rfl (by trivial)) qe_int))))
 (by exact (qss_cons (by exact (qs_rng1 rfl rfl b_range (by exact (qa_cons (qe_var (i := 1) rfl (by trivial)) qa_nil)) (by exact (qg_name (i := 4) nd rfl (by trivial)))
 (by exact (qss_cons (by exact (qs_set (i := 3) nd rfl (by trivial) (by exact (qe_bin (fun _ => o_mod) (qe_bin (fun _ => o_add) (qe_bin (fun _ => o_mul) (qe_var (i := 3) rfl (by trivial)) qe_int) qe_int) qe_int))))
 (by exact (qss_one (by exact (qs_own (i := 2) (fun _ => ow_append) PySem.F.slot_list_append PySem.F.type_list_append rfl (by trivial) (by exact (qa_cons (qe_var (i := 3) rfl (by trivial)) qa_nil))))))))))
 (by exact (qss_one (by exact (qs_ret (by exact (qe_var (i := 2) rfl (by trivial))))))))))))
theorem fo_law_stream {f : Addr} {fd : FuncData} (c : Cls) (F : Fun K "_law_stream" "_law_stream" s_law_stream f fd) (b_range : mg "range" = none)  : FnOk P w K mg base (CX1 P w) 1 f fd ["_law_cell_here", "_law_many"] (spUp K (sp_law_stream c)) :=
  fn2 F sc_law_stream (fun _ _ _ h => l_law_stream h) fun cdv A outer s H E hr F0 => ⟨rd_law_stream K c , d_law_stream c hr b_range, fun ds Q Ex h => r_law_stream  h⟩
theorem ok_law_stream {f : Addr} {fd : FuncData} (c : Cls) (F : Fun K "_law_stream" "_law_stream" s_law_stream f fd) (hm : mg "_law_stream" = some (.ref f)) (b_range : mg "range" = none)  : Fn2 P w K mg base "_law_stream" 1 ["_law_cell_here", "_law_many"] (sp_law_stream c) :=
  ⟨f, fd, fo_law_stream c F  b_range , hm, F.kp, F.binds fun _ _ _ _ _ _ us hl => by obtain ⟨_, _, rfl⟩ := len2 hl; exact rfl⟩
abbrev s_law : Stmt := top 24
theorem sc_law : FnScope ["_law_script", "_law_most", "_law_names_here", "_law_mark", "_law_book", "_law_k"] ["_law_script"] (defScope s_law) := ⟨rfl, rfl, rfl, by decide +kernel, rfl, by decide +kernel, by decide +kernel⟩
theorem d_law {f : Addr} {cdv : Value} {A : Around} {outer : List Env} {s : Shared} {H : Hp} {E : XK} {F0 : Hp} (c : Cls) (hr : Room 4 (A.deeper (envOfC "law" (defScope s_law) s.heap.objs.size f cdv))) (G_Book_put : Mt2M P w K mg base c.Book "put" 2 ["self", "work", "hand", "mark"] (sp_Book_put c)) (G_Book_drop : Mt2M P w K mg base c.Book "drop" 2 ["self", "work", "hand"] (sp_Book_drop c)) (G_law_names : Fn2 P w K mg base "_law_names" 1 ["_law_cell_here", "_law_many"] (sp_law_names c)) (G_Book___init__ : Mk2M P w K mg base "Book" c.Book 1 ["self", "most"] (sp_Book c)) (G_Book_rows : Mt2 P w K mg base c.Book "rows" 1 ["self"] (sp_Book_rows c)) (G_law_cell : Fn2 P w K mg base "_law_cell" 1 ["_law_script", "_law_k"] (sp_law_cell c)) (G_law_right : Fn2M P w K mg base "_law_right" 4 ["_law_book", "_law_names_here", "_law_most", "_law_xs"] (sp_law_right c)) (G_law_class : Fn2M P w K mg base "_law_class" 3 ["_law_book", "_law_way", "_law_work", "_law_hand", "_law_mark"] (sp_law_class c)) (G_law_stream : Fn2 P w K mg base "_law_stream" 1 ["_law_cell_here", "_law_many"] (sp_law_stream c)) (b_range : mg "range" = none) (oc_Book : L2.Cls K c.Book) : QSs (cxOf (CX1 P w) P w K mg base ["_law_script", "_law_most", "_law_names_here", "_law_mark", "_law_book", "_law_k"] "law" (defScope s_law) f cdv A outer s H E) F0 H (defBody s_law) (rd_law K c ) := by
  have nd := sc_law.nd
  have hu : (A.deeper (envOfC "law" (defScope s_law) s.heap.objs.size f cdv)).units + 21 < cLine := by have := hr.units; omega
  exact (qss_cons (by exact (qs_set (i := 1) nd rfl (by trivial) (by exact (qe_bin (fun _ => o_mod) (qe_callF G_law_cell (hr.mono (by decide)) rfl (qa_cons (qe_var (i := 0) rfl (by trivial)) (qa_cons qe_int qa_nil))) qe_int))))
 (by exact (qss_cons (by exact (qs_if (by exact (qt_cmp (fun _ => o_eq hu) (qe_bin (fun _ => o_mod) (qe_bin (fun _ => o_div) (qe_callF G_law_cell (hr.mono (by decide)) rfl (qa_cons (qe_var (i := 0) rfl (by trivial)) (qa_cons qe_int qa_nil))) qe_int) qe_int) qe_int (nomark _)))
 (by exact (qss_one (by exact (qs_set (i := 1) nd rfl (by trivial) (by exact (qe_bin (fun _ => o_mod) (qe_bin (fun _ => o_div) (qe_callF G_law_cell (hr.mono (by decide)) rfl (qa_cons (qe_var (i := 0) rfl (by trivial)) (qa_cons qe_int qa_nil))) qe_int) (qe_bin (fun _ => o_pow) qe_int qe_int)))))))
 (by exact qss_nil)))
 (by exact (qss_cons (by exact (qs_set (i := 2) nd rfl (by trivial) (by exact (qe_callF G_law_names (hr.mono (by decide)) rfl (qa_cons (qe_callF G_law_cell (hr.mono (by decide)) rfl (qa_cons (qe_var (i := 0) rfl (by trivial)) (qa_cons qe_int qa_nil))) (qa_cons qe_int qa_nil))))))
 (by exact (qss_cons (by exact (qs_set (i := 3) nd rfl (by trivial) (by exact (qe_bin (fun _ => o_mod) (qe_callF G_law_cell (hr.mono (by decide)) rfl (qa_cons (qe_var (i := 0) rfl (by trivial)) (qa_cons qe_int qa_nil))) (qe_bin (fun _ => o_add) (qe_var (i := 1) rfl (by trivial)) qe_int)))))
 (by exact (qss_cons (by exact (qs_setO (i := 4) nd rfl (by trivial) (by exact (qn_make G_Book___init__ (hr.mono (by decide)) rfl (qa_cons (qe_var (i := 1) rfl (by trivial)) qa_nil)))))
 (by exact (qss_cons (by exact (qs_expr (by exact (qe_methO (i := 4) G_Book_put oc_Book (hr.mono (by decide)) rfl (by trivial) (qa_cons (qe_ix (qe_var (i := 2) rfl (by trivial)) qe_int (fun _ _ => rfl)) (qa_cons (qe_ix (qe_var (i := 2) rfl (by trivial)) qe_int (fun _ _ => rfl)) (qa_cons (qe_var (i := 3) rfl (by trivial)) qa_nil)))))))
 (by exact (qss_cons (by exact (qs_rng1 rfl rfl b_range (by exact (qa_cons qe_int qa_nil)) (by exact (qg_name (i := 5) nd rfl (by trivial)))
 (by exact (qss_cons (by exact (qs_if (by exact (qt_not (qt_val (qe_callO (i := 4) G_law_right (hr.mono (by decide)) rfl rfl (by trivial) (qa_cons (qe_var (i := 2) rfl (by trivial)) (qa_cons (qe_var (i := 1) rfl (by trivial)) (qa_cons (qe_callF G_law_stream (hr.mono (by decide)) rfl (qa_cons (qe_callF G_law_cell (hr.mono (by decide)) rfl (qa_cons (qe_var (i := 0) rfl (by trivial)) (qa_cons (qe_bin (fun _ => o_add) qe_int (qe_var (i := 5) rfl (by trivial))) qa_nil))) (qa_cons qe_int qa_nil))) qa_nil)))))))
 (by exact (qss_one (by exact (qs_ret (by exact qe_bl)))))
 (by exact qss_nil)))
 (by exact (qss_one (by exact (qs_if (by exact (qt_peek (fun F0 H0 => by exact (qt_cmp (fun _ => o_ne hu) (qe_meth0 G_Book_rows oc_Book (hr.mono (by decide)) (qe_var (i := 4) rfl (by trivial))) (qe_of (by exact (qf_lst (qa_cons (qe_tup (qa_cons (qe_ix (qe_var (i := 2) rfl (by trivial)) qe_int (fun _ _ => rfl)) (qa_cons (qe_ix (qe_var (i := 2) rfl (by trivial)) qe_int (fun _ _ => rfl)) (qa_cons (qe_var (i := 3) rfl (by trivial)) qa_nil)))) qa_nil)))) (nomark _)))))
 (by exact (qss_one (by exact (qs_ret (by exact qe_bl)))))
 (by exact qss_nil)))))))))
 (by exact (qss_cons (by exact (qs_expr (by exact (qe_methO (i := 4) G_Book_drop oc_Book (hr.mono (by decide)) rfl (by trivial) (qa_cons (qe_ix (qe_var (i := 2) rfl (by trivial)) qe_int (fun _ _ => rfl)) (qa_cons (qe_ix (qe_var (i := 2) rfl (by trivial)) qe_int (fun _ _ => rfl)) qa_nil))))))
 (by exact (qss_cons (by exact (qs_if (by exact (qt_w (qw_or (qt_peek (fun F0 H0 => by exact (qt_cmp (fun _ => o_ne hu) (qe_meth0 G_Book_rows oc_Book (hr.mono (by decide)) (qe_var (i := 4) rfl (by trivial))) (qe_of (by exact (qf_lst qa_nil))) (nomark _)))) (qw_or1 (qt_cmp (fun _ => o_ne hu) (qe_callO (i := 4) G_law_class (hr.mono (by decide)) rfl rfl (by trivial) (qa_cons qe_int (qa_cons (qe_ix (qe_var (i := 2) rfl (by trivial)) qe_int (fun _ _ => rfl)) (qa_cons (qe_ix (qe_var (i := 2) rfl (by trivial)) qe_int (fun _ _ => rfl)) (qa_cons qe_int qa_nil))))) qe_str (nomark _))))))
 (by exact (qss_one (by exact (qs_ret (by exact qe_bl)))))
 (by exact qss_nil)))
 (by exact (qss_cons (by exact (qs_expr (by exact (qe_methO (i := 4) G_Book_put oc_Book (hr.mono (by decide)) rfl (by trivial) (qa_cons (qe_ix (qe_var (i := 2) rfl (by trivial)) qe_int (fun _ _ => rfl)) (qa_cons (qe_ix (qe_var (i := 2) rfl (by trivial)) qe_int (fun _ _ => rfl)) (qa_cons (qe_bin (fun _ => o_sub) (qe_var (i := 1) rfl (by trivial)) (qe_var (i := 3) rfl (by trivial))) qa_nil)))))))
 (by exact (qss_one (by exact (qs_ret (by exact (qe_peek (fun F0 H0 => by exact (qe_cmp (fun _ => o_eq hu) (qe_meth0 G_Book_rows oc_Book (hr.mono (by decide)) (qe_var (i := 4) rfl (by trivial))) (qe_of (by exact (qf_lst (qa_cons (qe_tup (qa_cons (qe_ix (qe_var (i := 2) rfl (by trivial)) qe_int (fun _ _ => rfl)) (qa_cons (qe_ix (qe_var (i := 2) rfl (by trivial)) qe_int (fun _ _ => rfl)) (qa_cons (qe_bin (fun _ => o_sub) (qe_var (i := 1) rfl (by trivial)) (qe_var (i := 3) rfl (by trivial))) qa_nil)))) qa_nil)))) (nomark _))))))))))))))))))))))))))))
theorem fo_law {f : Addr} {fd : FuncData} (c : Cls) (F : Fun K "law" "law" s_law f fd) (G_Book_put : Mt2M P w K mg base c.Book "put" 2 ["self", "work", "hand", "mark"] (sp_Book_put c)) (G_Book_drop : Mt2M P w K mg base c.Book "drop" 2 ["self", "work", "hand"] (sp_Book_drop c)) (G_law_names : Fn2 P w K mg base "_law_names" 1 ["_law_cell_here", "_law_many"] (sp_law_names c)) (G_Book___init__ : Mk2M P w K mg base "Book" c.Book 1 ["self", "most"] (sp_Book c)) (G_Book_rows : Mt2 P w K mg base c.Book "rows" 1 ["self"] (sp_Book_rows c)) (G_law_cell : Fn2 P w K mg base "_law_cell" 1 ["_law_script", "_law_k"] (sp_law_cell c)) (G_law_right : Fn2M P w K mg base "_law_right" 4 ["_law_book", "_law_names_here", "_law_most", "_law_xs"] (sp_law_right c)) (G_law_class : Fn2M P w K mg base "_law_class" 3 ["_law_book", "_law_way", "_law_work", "_law_hand", "_law_mark"] (sp_law_class c)) (G_law_stream : Fn2 P w K mg base "_law_stream" 1 ["_law_cell_here", "_law_many"] (sp_law_stream c)) (b_range : mg "range" = none) (oc_Book : L2.Cls K c.Book)  : FnOk P w K mg base (CX1 P w) 5 f fd ["_law_script"] (spUp K (sp_law c)) :=
  fn2 F sc_law (fun _ _ _ h => l_law h) fun cdv A outer s H E hr F0 => ⟨rd_law K c , d_law c hr G_Book_put G_Book_drop G_law_names G_Book___init__ G_Book_rows G_law_cell G_law_right G_law_class G_law_stream b_range oc_Book, fun ds Q Ex h => r_law  h⟩
theorem ok_law {f : Addr} {fd : FuncData} (c : Cls) (F : Fun K "law" "law" s_law f fd) (hm : mg "law" = some (.ref f)) (G_Book_put : Mt2M P w K mg base c.Book "put" 2 ["self", "work", "hand", "mark"] (sp_Book_put c)) (G_Book_drop : Mt2M P w K mg base c.Book "drop" 2 ["self", "work", "hand"] (sp_Book_drop c)) (G_law_names : Fn2 P w K mg base "_law_names" 1 ["_law_cell_here", "_law_many"] (sp_law_names c)) (G_Book___init__ : Mk2M P w K mg base "Book" c.Book 1 ["self", "most"] (sp_Book c)) (G_Book_rows : Mt2 P w K mg base c.Book "rows" 1 ["self"] (sp_Book_rows c)) (G_law_cell : Fn2 P w K mg base "_law_cell" 1 ["_law_script", "_law_k"] (sp_law_cell c)) (G_law_right : Fn2M P w K mg base "_law_right" 4 ["_law_book", "_law_names_here", "_law_most", "_law_xs"] (sp_law_right c)) (G_law_class : Fn2M P w K mg base "_law_class" 3 ["_law_book", "_law_way", "_law_work", "_law_hand", "_law_mark"] (sp_law_class c)) (G_law_stream : Fn2 P w K mg base "_law_stream" 1 ["_law_cell_here", "_law_many"] (sp_law_stream c)) (b_range : mg "range" = none) (oc_Book : L2.Cls K c.Book)  : Fn2 P w K mg base "law" 5 ["_law_script"] (sp_law c) :=
  ⟨f, fd, fo_law c F  G_Book_put G_Book_drop G_law_names G_Book___init__ G_Book_rows G_law_cell G_law_right G_law_class G_law_stream b_range oc_Book , hm, F.kp, F.binds fun _ _ _ _ _ _ us hl => by obtain ⟨_, rfl⟩ := len1 hl; exact rfl⟩
end
theorem all_mk {l : PySem.W.OpenLaw} {w : World} {K : PySem.W.Frag} {h : Heap} {mg : Str → Option Value} {fa : Addr} (X : K.In h) (G : h.Ns mainGlobals mg) (hfa : mg "law" = some (.ref fa))
  {C_NoName C_NoMark C_Twice C_Missing C_HallError C_Apart C_Few C_NoRow C_NoWork C_Book : Addr}
  (x_Book : PySem.W.nsIn K mainGlobals "Book" = some (some (.ref C_Book))) (u1_Book : PySem.W.plainGet K C_Book Str.empty = true) (u2_Book : PySem.W.hasDictIn K C_Book = true) (u3_Book : PySem.W.plainOver K C_Book = true) (u4_Book : PySem.W.findIn K (.ref C_Book) "__setattr__" = some (some (.builtin "object.__setattr__"))) (u5_Book : PySem.W.makesIn K C_Book = true) (u6_Book : PySem.W.keepIn K (.ref C_Book) = true)
  (na_Book_marks : PySem.W.findIn K (.ref C_Book) "marks" = some none)
  (na_Book_most : PySem.W.findIn K (.ref C_Book) "most" = some none)
  {f0 : Addr} {od0 an0 : Option Addr} {sl0 : Array (Option Value)} {oc0 kV0 dc0 pm0 cd0 ct0 : Value}
  (a0 : PySem.W.nsIn K mainGlobals "is_mark" = some (some (.ref f0))) (l0 : K.lookup f0 = some ⟨oc0, od0, .func (PySem.W.fnOf "is_mark" "is_mark" (defArgs s_is_mark) (defBody s_is_mark) (defScope s_is_mark) .none kV0 dc0 pm0 an0 cd0 ct0), sl0⟩) (c0 : PySem.W.codeIn K cd0 "is_mark" = true) (k0 : PySem.W.keepIn K (.ref f0) = true)
  {f1 : Addr} {od1 an1 : Option Addr} {sl1 : Array (Option Value)} {oc1 kV1 dc1 pm1 cd1 ct1 : Value}
  (a1 : PySem.W.nsIn K mainGlobals "is_name" = some (some (.ref f1))) (l1 : K.lookup f1 = some ⟨oc1, od1, .func (PySem.W.fnOf "is_name" "is_name" (defArgs s_is_name) (defBody s_is_name) (defScope s_is_name) .none kV1 dc1 pm1 an1 cd1 ct1), sl1⟩) (c1 : PySem.W.codeIn K cd1 "is_name" = true) (k1 : PySem.W.keepIn K (.ref f1) = true)
  {f2 : Addr} {od2 an2 : Option Addr} {sl2 : Array (Option Value)} {oc2 kV2 dc2 pm2 cd2 ct2 : Value}
  (a2 : PySem.W.findIn K (.ref C_Book) "put" = some (some (.ref f2))) (n2 : PySem.W.isFn K (.ref f2) = true) (l2 : K.lookup f2 = some ⟨oc2, od2, .func (PySem.W.fnOf "put" "Book.put" (defArgs s_Book_put) (defBody s_Book_put) (defScope s_Book_put) .none kV2 dc2 pm2 an2 cd2 ct2), sl2⟩) (c2 : PySem.W.codeIn K cd2 "Book.put" = true) (k2 : PySem.W.keepIn K (.ref f2) = true)
  {f3 : Addr} {od3 an3 : Option Addr} {sl3 : Array (Option Value)} {oc3 kV3 dc3 pm3 cd3 ct3 : Value}
  (a3 : PySem.W.findIn K (.ref C_Book) "drop" = some (some (.ref f3))) (n3 : PySem.W.isFn K (.ref f3) = true) (l3 : K.lookup f3 = some ⟨oc3, od3, .func (PySem.W.fnOf "drop" "Book.drop" (defArgs s_Book_drop) (defBody s_Book_drop) (defScope s_Book_drop) .none kV3 dc3 pm3 an3 cd3 ct3), sl3⟩) (c3 : PySem.W.codeIn K cd3 "Book.drop" = true) (k3 : PySem.W.keepIn K (.ref f3) = true)
  {f4 : Addr} {od4 an4 : Option Addr} {sl4 : Array (Option Value)} {oc4 kV4 dc4 pm4 cd4 ct4 : Value}
  (a4 : PySem.W.nsIn K mainGlobals "_law_names" = some (some (.ref f4))) (l4 : K.lookup f4 = some ⟨oc4, od4, .func (PySem.W.fnOf "_law_names" "_law_names" (defArgs s_law_names) (defBody s_law_names) (defScope s_law_names) .none kV4 dc4 pm4 an4 cd4 ct4), sl4⟩) (c4 : PySem.W.codeIn K cd4 "_law_names" = true) (k4 : PySem.W.keepIn K (.ref f4) = true)
  {f5 : Addr} {od5 an5 : Option Addr} {sl5 : Array (Option Value)} {oc5 kV5 dc5 pm5 cd5 ct5 : Value}
  (a5 : PySem.W.findIn K (.ref C_Book) "__init__" = some (some (.ref f5))) (n5 : PySem.W.isFn K (.ref f5) = true) (l5 : K.lookup f5 = some ⟨oc5, od5, .func (PySem.W.fnOf "__init__" "Book.__init__" (defArgs s_Book___init__) (defBody s_Book___init__) (defScope s_Book___init__) .none kV5 dc5 pm5 an5 cd5 ct5), sl5⟩) (c5 : PySem.W.codeIn K cd5 "Book.__init__" = true) (k5 : PySem.W.keepIn K (.ref f5) = true)
  {f6 : Addr} {od6 an6 : Option Addr} {sl6 : Array (Option Value)} {oc6 kV6 dc6 pm6 cd6 ct6 : Value}
  (a6 : PySem.W.findIn K (.ref C_Book) "rows" = some (some (.ref f6))) (n6 : PySem.W.isFn K (.ref f6) = true) (l6 : K.lookup f6 = some ⟨oc6, od6, .func (PySem.W.fnOf "rows" "Book.rows" (defArgs s_Book_rows) (defBody s_Book_rows) (defScope s_Book_rows) .none kV6 dc6 pm6 an6 cd6 ct6), sl6⟩) (c6 : PySem.W.codeIn K cd6 "Book.rows" = true) (k6 : PySem.W.keepIn K (.ref f6) = true)
  {f7 : Addr} {od7 an7 : Option Addr} {sl7 : Array (Option Value)} {oc7 kV7 dc7 pm7 cd7 ct7 : Value}
  (a7 : PySem.W.nsIn K mainGlobals "_law_cell" = some (some (.ref f7))) (l7 : K.lookup f7 = some ⟨oc7, od7, .func (PySem.W.fnOf "_law_cell" "_law_cell" (defArgs s_law_cell) (defBody s_law_cell) (defScope s_law_cell) .none kV7 dc7 pm7 an7 cd7 ct7), sl7⟩) (c7 : PySem.W.codeIn K cd7 "_law_cell" = true) (k7 : PySem.W.keepIn K (.ref f7) = true)
  {f8 : Addr} {od8 an8 : Option Addr} {sl8 : Array (Option Value)} {oc8 kV8 dc8 pm8 cd8 ct8 : Value}
  (a8 : PySem.W.nsIn K mainGlobals "_law_odd_name" = some (some (.ref f8))) (l8 : K.lookup f8 = some ⟨oc8, od8, .func (PySem.W.fnOf "_law_odd_name" "_law_odd_name" (defArgs s_law_odd_name) (defBody s_law_odd_name) (defScope s_law_odd_name) .none kV8 dc8 pm8 an8 cd8 ct8), sl8⟩) (c8 : PySem.W.codeIn K cd8 "_law_odd_name" = true) (k8 : PySem.W.keepIn K (.ref f8) = true)
  {f9 : Addr} {od9 an9 : Option Addr} {sl9 : Array (Option Value)} {oc9 kV9 dc9 pm9 cd9 ct9 : Value}
  (a9 : PySem.W.nsIn K mainGlobals "_law_class" = some (some (.ref f9))) (l9 : K.lookup f9 = some ⟨oc9, od9, .func (PySem.W.fnOf "_law_class" "_law_class" (defArgs s_law_class) (defBody s_law_class) (defScope s_law_class) .none kV9 dc9 pm9 an9 cd9 ct9), sl9⟩) (c9 : PySem.W.codeIn K cd9 "_law_class" = true) (k9 : PySem.W.keepIn K (.ref f9) = true)
  {f10 : Addr} {od10 an10 : Option Addr} {sl10 : Array (Option Value)} {oc10 kV10 dc10 pm10 cd10 ct10 : Value}
  (a10 : PySem.W.nsIn K mainGlobals "_law_odd_mark" = some (some (.ref f10))) (l10 : K.lookup f10 = some ⟨oc10, od10, .func (PySem.W.fnOf "_law_odd_mark" "_law_odd_mark" (defArgs s_law_odd_mark) (defBody s_law_odd_mark) (defScope s_law_odd_mark) .none kV10 dc10 pm10 an10 cd10 ct10), sl10⟩) (c10 : PySem.W.codeIn K cd10 "_law_odd_mark" = true) (k10 : PySem.W.keepIn K (.ref f10) = true)
  {f11 : Addr} {od11 an11 : Option Addr} {sl11 : Array (Option Value)} {oc11 kV11 dc11 pm11 cd11 ct11 : Value}
  (a11 : PySem.W.nsIn K mainGlobals "_law_right" = some (some (.ref f11))) (l11 : K.lookup f11 = some ⟨oc11, od11, .func (PySem.W.fnOf "_law_right" "_law_right" (defArgs s_law_right) (defBody s_law_right) (defScope s_law_right) .none kV11 dc11 pm11 an11 cd11 ct11), sl11⟩) (c11 : PySem.W.codeIn K cd11 "_law_right" = true) (k11 : PySem.W.keepIn K (.ref f11) = true)
  {f12 : Addr} {od12 an12 : Option Addr} {sl12 : Array (Option Value)} {oc12 kV12 dc12 pm12 cd12 ct12 : Value}
  (a12 : PySem.W.nsIn K mainGlobals "_law_stream" = some (some (.ref f12))) (l12 : K.lookup f12 = some ⟨oc12, od12, .func (PySem.W.fnOf "_law_stream" "_law_stream" (defArgs s_law_stream) (defBody s_law_stream) (defScope s_law_stream) .none kV12 dc12 pm12 an12 cd12 ct12), sl12⟩) (c12 : PySem.W.codeIn K cd12 "_law_stream" = true) (k12 : PySem.W.keepIn K (.ref f12) = true)
  {f13 : Addr} {od13 an13 : Option Addr} {sl13 : Array (Option Value)} {oc13 kV13 dc13 pm13 cd13 ct13 : Value}
  (a13 : PySem.W.nsIn K mainGlobals "law" = some (some (.ref f13))) (l13 : K.lookup f13 = some ⟨oc13, od13, .func (PySem.W.fnOf "law" "law" (defArgs s_law) (defBody s_law) (defScope s_law) .none kV13 dc13 pm13 an13 cd13 ct13), sl13⟩) (c13 : PySem.W.codeIn K cd13 "law" = true) (k13 : PySem.W.keepIn K (.ref f13) = true)
  (x_NoName : PySem.W.nsIn K mainGlobals "NoName" = some (some (.ref C_NoName))) (y_NoName : PySem.W.excIn K C_NoName [.type "ValueError", .type "Exception", .type "BaseException", .type "object"] "ValueError.__new__" = true)
  (x_NoMark : PySem.W.nsIn K mainGlobals "NoMark" = some (some (.ref C_NoMark))) (y_NoMark : PySem.W.excIn K C_NoMark [.type "ValueError", .type "Exception", .type "BaseException", .type "object"] "ValueError.__new__" = true)
  (x_Twice : PySem.W.nsIn K mainGlobals "Twice" = some (some (.ref C_Twice))) (y_Twice : PySem.W.excIn K C_Twice [.type "ValueError", .type "Exception", .type "BaseException", .type "object"] "ValueError.__new__" = true)
  (x_Missing : PySem.W.nsIn K mainGlobals "Missing" = some (some (.ref C_Missing))) (y_Missing : PySem.W.excIn K C_Missing [.type "ValueError", .type "Exception", .type "BaseException", .type "object"] "ValueError.__new__" = true)
  (x_HallError : PySem.W.nsIn K mainGlobals "HallError" = some (some (.ref C_HallError))) (y_HallError : PySem.W.excIn K C_HallError [.type "ValueError", .type "Exception", .type "BaseException", .type "object"] "ValueError.__new__" = true)
  (x_Apart : PySem.W.nsIn K mainGlobals "Apart" = some (some (.ref C_Apart))) (y_Apart : PySem.W.excIn K C_Apart [.type "ValueError", .type "Exception", .type "BaseException", .type "object"] "ValueError.__new__" = true)
  (x_Few : PySem.W.nsIn K mainGlobals "Few" = some (some (.ref C_Few))) (y_Few : PySem.W.excIn K C_Few [.type "ValueError", .type "Exception", .type "BaseException", .type "object"] "ValueError.__new__" = true)
  (x_NoRow : PySem.W.nsIn K mainGlobals "NoRow" = some (some (.ref C_NoRow))) (y_NoRow : PySem.W.excIn K C_NoRow [.type "ValueError", .type "Exception", .type "BaseException", .type "object"] "ValueError.__new__" = true)
  (x_NoWork : PySem.W.nsIn K mainGlobals "NoWork" = some (some (.ref C_NoWork))) (y_NoWork : PySem.W.excIn K C_NoWork [.type "ValueError", .type "Exception", .type "BaseException", .type "object"] "ValueError.__new__" = true)
  (z_isinstance : PySem.W.nsIn K mainGlobals "isinstance" = some none)
  (z_bool : PySem.W.nsIn K mainGlobals "bool" = some none)
  (z_int : PySem.W.nsIn K mainGlobals "int" = some none)
  (z_all : PySem.W.nsIn K mainGlobals "all" = some none)
  (z_str : PySem.W.nsIn K mainGlobals "str" = some none)
  (z_len : PySem.W.nsIn K mainGlobals "len" = some none)
  (z_range : PySem.W.nsIn K mainGlobals "range" = some none)
  (z_sorted : PySem.W.nsIn K mainGlobals "sorted" = some none)
  (z_ValueError : PySem.W.nsIn K mainGlobals "ValueError" = some none)
  {qt_LONGEST_NAME : Tok} (qa_LONGEST_NAME : PySem.W.nsIn K mainGlobals "LONGEST_NAME" = some (some (.int 8 qt_LONGEST_NAME)))
  (g1_NoName : PySem.W.findIn K (.ref C_NoName) "__getattribute__" = some (some (.builtin "BaseException.__getattribute__")))
  (g2_NoName : PySem.W.findIn K (.ref C_NoName) "__getattr__" = some none)
  (g3_NoName : PySem.W.findIn K (.ref C_NoName) "__class__" = some (some (.builtin "object.__class__")))
  (g4_NoName : PySem.W.mroIn K C_NoName (.type "object") = some true)
  (g5_NoName : PySem.W.mroIn K C_NoName (.type "BaseException") = some true)
  (v_NoName : PySem.W.mroIn K C_NoName (.type "ValueError") = some true)
  (s_NoName_HallError : excSub K C_NoName C_HallError = true)
  (s_NoName_NoName : excSub K C_NoName C_NoName = decide (0 = 0))
  (s_NoName_NoMark : excSub K C_NoName C_NoMark = decide (0 = 1))
  (s_NoName_Twice : excSub K C_NoName C_Twice = decide (0 = 2))
  (s_NoName_Missing : excSub K C_NoName C_Missing = decide (0 = 3))
  (s_NoName_Apart : excSub K C_NoName C_Apart = false)
  (s_NoName_Few : excSub K C_NoName C_Few = false)
  (s_NoName_NoRow : excSub K C_NoName C_NoRow = false)
  (s_NoName_NoWork : excSub K C_NoName C_NoWork = false)
  (g1_NoMark : PySem.W.findIn K (.ref C_NoMark) "__getattribute__" = some (some (.builtin "BaseException.__getattribute__")))
  (g2_NoMark : PySem.W.findIn K (.ref C_NoMark) "__getattr__" = some none)
  (g3_NoMark : PySem.W.findIn K (.ref C_NoMark) "__class__" = some (some (.builtin "object.__class__")))
  (g4_NoMark : PySem.W.mroIn K C_NoMark (.type "object") = some true)
  (g5_NoMark : PySem.W.mroIn K C_NoMark (.type "BaseException") = some true)
  (v_NoMark : PySem.W.mroIn K C_NoMark (.type "ValueError") = some true)
  (s_NoMark_HallError : excSub K C_NoMark C_HallError = true)
  (s_NoMark_NoName : excSub K C_NoMark C_NoName = decide (1 = 0))
  (s_NoMark_NoMark : excSub K C_NoMark C_NoMark = decide (1 = 1))
  (s_NoMark_Twice : excSub K C_NoMark C_Twice = decide (1 = 2))
  (s_NoMark_Missing : excSub K C_NoMark C_Missing = decide (1 = 3))
  (s_NoMark_Apart : excSub K C_NoMark C_Apart = false)
  (s_NoMark_Few : excSub K C_NoMark C_Few = false)
  (s_NoMark_NoRow : excSub K C_NoMark C_NoRow = false)
  (s_NoMark_NoWork : excSub K C_NoMark C_NoWork = false)
  (g1_Twice : PySem.W.findIn K (.ref C_Twice) "__getattribute__" = some (some (.builtin "BaseException.__getattribute__")))
  (g2_Twice : PySem.W.findIn K (.ref C_Twice) "__getattr__" = some none)
  (g3_Twice : PySem.W.findIn K (.ref C_Twice) "__class__" = some (some (.builtin "object.__class__")))
  (g4_Twice : PySem.W.mroIn K C_Twice (.type "object") = some true)
  (g5_Twice : PySem.W.mroIn K C_Twice (.type "BaseException") = some true)
  (v_Twice : PySem.W.mroIn K C_Twice (.type "ValueError") = some true)
  (s_Twice_HallError : excSub K C_Twice C_HallError = true)
  (s_Twice_NoName : excSub K C_Twice C_NoName = decide (2 = 0))
  (s_Twice_NoMark : excSub K C_Twice C_NoMark = decide (2 = 1))
  (s_Twice_Twice : excSub K C_Twice C_Twice = decide (2 = 2))
  (s_Twice_Missing : excSub K C_Twice C_Missing = decide (2 = 3))
  (s_Twice_Apart : excSub K C_Twice C_Apart = false)
  (s_Twice_Few : excSub K C_Twice C_Few = false)
  (s_Twice_NoRow : excSub K C_Twice C_NoRow = false)
  (s_Twice_NoWork : excSub K C_Twice C_NoWork = false)
  (g1_Missing : PySem.W.findIn K (.ref C_Missing) "__getattribute__" = some (some (.builtin "BaseException.__getattribute__")))
  (g2_Missing : PySem.W.findIn K (.ref C_Missing) "__getattr__" = some none)
  (g3_Missing : PySem.W.findIn K (.ref C_Missing) "__class__" = some (some (.builtin "object.__class__")))
  (g4_Missing : PySem.W.mroIn K C_Missing (.type "object") = some true)
  (g5_Missing : PySem.W.mroIn K C_Missing (.type "BaseException") = some true)
  (v_Missing : PySem.W.mroIn K C_Missing (.type "ValueError") = some true)
  (s_Missing_HallError : excSub K C_Missing C_HallError = true)
  (s_Missing_NoName : excSub K C_Missing C_NoName = decide (3 = 0))
  (s_Missing_NoMark : excSub K C_Missing C_NoMark = decide (3 = 1))
  (s_Missing_Twice : excSub K C_Missing C_Twice = decide (3 = 2))
  (s_Missing_Missing : excSub K C_Missing C_Missing = decide (3 = 3))
  (s_Missing_Apart : excSub K C_Missing C_Apart = false)
  (s_Missing_Few : excSub K C_Missing C_Few = false)
  (s_Missing_NoRow : excSub K C_Missing C_NoRow = false)
  (s_Missing_NoWork : excSub K C_Missing C_NoWork = false) :
  ∃ fd : FuncData, (∀ (s : Shared) (v : Value), BindsTo s fd ⟨[v], []⟩ [("_law_script", v)]) ∧ ∀ base : Heap, K.In base → base.Ns mainGlobals mg → FnOk l.prog w K mg base (CX1 l.prog w) 5 fa fd ["_law_script"] (spUp K sp_law0) := by
  have e := hfa.symm.trans (PySem.W.mg_of X G a13)
  cases e
  let c : Cls := { NoName := C_NoName, NoMark := C_NoMark, Twice := C_Twice, Missing := C_Missing, HallError := C_HallError, Apart := C_Apart, Few := C_Few, NoRow := C_NoRow, NoWork := C_NoWork, Book := C_Book }
  have oc_Book : L2.Cls K c.Book := ⟨u1_Book, u2_Book, u3_Book, u4_Book⟩
  have e_NoName : mg "NoName" = some (.ref c.NoName) ∧ ExcC K c.NoName := ⟨PySem.W.mg_of X G x_NoName, y_NoName⟩
  have e_NoMark : mg "NoMark" = some (.ref c.NoMark) ∧ ExcC K c.NoMark := ⟨PySem.W.mg_of X G x_NoMark, y_NoMark⟩
  have e_Twice : mg "Twice" = some (.ref c.Twice) ∧ ExcC K c.Twice := ⟨PySem.W.mg_of X G x_Twice, y_Twice⟩
  have e_Missing : mg "Missing" = some (.ref c.Missing) ∧ ExcC K c.Missing := ⟨PySem.W.mg_of X G x_Missing, y_Missing⟩
  have e_HallError : mg "HallError" = some (.ref c.HallError) ∧ ExcC K c.HallError := ⟨PySem.W.mg_of X G x_HallError, y_HallError⟩
  have e_Apart : mg "Apart" = some (.ref c.Apart) ∧ ExcC K c.Apart := ⟨PySem.W.mg_of X G x_Apart, y_Apart⟩
  have e_Few : mg "Few" = some (.ref c.Few) ∧ ExcC K c.Few := ⟨PySem.W.mg_of X G x_Few, y_Few⟩
  have e_NoRow : mg "NoRow" = some (.ref c.NoRow) ∧ ExcC K c.NoRow := ⟨PySem.W.mg_of X G x_NoRow, y_NoRow⟩
  have e_NoWork : mg "NoWork" = some (.ref c.NoWork) ∧ ExcC K c.NoWork := ⟨PySem.W.mg_of X G x_NoWork, y_NoWork⟩
  have b_isinstance : mg "isinstance" = none := PySem.W.mg_none_of X G z_isinstance
  have b_bool : mg "bool" = none := PySem.W.mg_none_of X G z_bool
  have b_int : mg "int" = none := PySem.W.mg_none_of X G z_int
  have b_all : mg "all" = none := PySem.W.mg_none_of X G z_all
  have b_str : mg "str" = none := PySem.W.mg_none_of X G z_str
  have b_len : mg "len" = none := PySem.W.mg_none_of X G z_len
  have b_range : mg "range" = none := PySem.W.mg_none_of X G z_range
  have b_sorted : mg "sorted" = none := PySem.W.mg_none_of X G z_sorted
  have b_ValueError : mg "ValueError" = none := PySem.W.mg_none_of X G z_ValueError
  have k_LONGEST_NAME : Glb K mg "LONGEST_NAME" (.int 8) := ⟨.int 8, .int 8 qt_LONGEST_NAME, PySem.W.mg_of X G qa_LONGEST_NAME, ⟨_, rfl⟩, fun F => by unfold Rep; rfl⟩
  have F_is_mark := fun_mk (st := s_is_mark) l0 c0 k0
  have F_is_name := fun_mk (st := s_is_name) l1 c1 k1
  have F_Book_put := fun_mk (st := s_Book_put) l2 c2 k2
  have F_Book_drop := fun_mk (st := s_Book_drop) l3 c3 k3
  have F_law_names := fun_mk (st := s_law_names) l4 c4 k4
  have F_Book___init__ := fun_mk (st := s_Book___init__) l5 c5 k5
  have F_Book_rows := fun_mk (st := s_Book_rows) l6 c6 k6
  have F_law_cell := fun_mk (st := s_law_cell) l7 c7 k7
  have F_law_odd_name := fun_mk (st := s_law_odd_name) l8 c8 k8
  have F_law_class := fun_mk (st := s_law_class) l9 c9 k9
  have F_law_odd_mark := fun_mk (st := s_law_odd_mark) l10 c10 k10
  have F_law_right := fun_mk (st := s_law_right) l11 c11 k11
  have F_law_stream := fun_mk (st := s_law_stream) l12 c12 k12
  have F_law := fun_mk (st := s_law) l13 c13 k13
  refine ⟨PySem.W.fnOf "law" "law" (defArgs s_law) (defBody s_law) (defScope s_law) .none kV13 dc13 pm13 an13 cd13 ct13, fun s v => .of_eq rfl, fun base kb nb => ?_⟩
  have G_is_mark := ok_is_mark (P := l.prog) (w := w) (base := base) c F_is_mark (PySem.W.mg_of X G a0) b_isinstance b_bool b_int 
  have G_is_name := ok_is_name (P := l.prog) (w := w) (base := base) c F_is_name (PySem.W.mg_of X G a1) b_all b_isinstance b_str b_len k_LONGEST_NAME 
  have G_Book_put := ok_Book_put (P := l.prog) (w := w) (base := base) c F_Book_put ⟨a2, n2, k2⟩ G_is_mark G_is_name e_NoName e_NoMark e_Twice oc_Book na_Book_marks na_Book_most 
  have G_Book_drop := ok_Book_drop (P := l.prog) (w := w) (base := base) c F_Book_drop ⟨a3, n3, k3⟩ G_is_name e_Missing oc_Book na_Book_marks 
  have G_law_names := ok_law_names (P := l.prog) (w := w) (base := base) c F_law_names (PySem.W.mg_of X G a4) b_range b_int 
  have G_Book___init__ := ok_Book___init__ (P := l.prog) (w := w) (base := base) c F_Book___init__ ⟨u5_Book, a5, n5, u6_Book⟩ (PySem.W.mg_of X G x_Book) oc_Book na_Book_most na_Book_marks 
  have G_Book_rows := ok_Book_rows (P := l.prog) (w := w) (base := base) c F_Book_rows ⟨a6, n6, k6⟩ b_sorted oc_Book na_Book_marks 
  have G_law_cell := ok_law_cell (P := l.prog) (w := w) (base := base) c F_law_cell (PySem.W.mg_of X G a7) b_len 
  have G_law_odd_name := ok_law_odd_name (P := l.prog) (w := w) (base := base) c F_law_odd_name (PySem.W.mg_of X G a8) b_len 
  have G_law_class := ok_law_class (P := l.prog) (w := w) (base := base) c F_law_class (PySem.W.mg_of X G a9) G_Book_put G_Book_drop b_isinstance b_ValueError b_len e_HallError e_NoName e_NoMark e_Twice e_Missing e_Apart e_Few e_NoRow e_NoWork oc_Book g1_NoName g2_NoName g3_NoName g4_NoName g5_NoName v_NoName s_NoName_HallError s_NoName_NoName s_NoName_NoMark s_NoName_Twice s_NoName_Missing s_NoName_Apart s_NoName_Few s_NoName_NoRow s_NoName_NoWork g1_NoMark g2_NoMark g3_NoMark g4_NoMark g5_NoMark v_NoMark s_NoMark_HallError s_NoMark_NoName s_NoMark_NoMark s_NoMark_Twice s_NoMark_Missing s_NoMark_Apart s_NoMark_Few s_NoMark_NoRow s_NoMark_NoWork g1_Twice g2_Twice g3_Twice g4_Twice g5_Twice v_Twice s_Twice_HallError s_Twice_NoName s_Twice_NoMark s_Twice_Twice s_Twice_Missing s_Twice_Apart s_Twice_Few s_Twice_NoRow s_Twice_NoWork g1_Missing g2_Missing g3_Missing g4_Missing g5_Missing v_Missing s_Missing_HallError s_Missing_NoName s_Missing_NoMark s_Missing_Twice s_Missing_Missing s_Missing_Apart s_Missing_Few s_Missing_NoRow s_Missing_NoWork
  have G_law_odd_mark := ok_law_odd_mark (P := l.prog) (w := w) (base := base) c F_law_odd_mark (PySem.W.mg_of X G a10)  
  have G_law_right := ok_law_right (P := l.prog) (w := w) (base := base) c F_law_right (PySem.W.mg_of X G a11) G_law_odd_name G_law_class G_law_odd_mark 
  have G_law_stream := ok_law_stream (P := l.prog) (w := w) (base := base) c F_law_stream (PySem.W.mg_of X G a12) b_range 
  exact fo_law (P := l.prog) (w := w) (base := base) c F_law G_Book_put G_Book_drop G_law_names G_Book___init__ G_Book_rows G_law_cell G_law_right G_law_class G_law_stream b_range oc_Book 
theorem walk {l : PySem.W.OpenLaw} {q : Program} {loose : List Str} {XP : (Str → Option Value) → Heap → Prop} {YP : World → Heap → Prop} {d : DefRec} {K : Params → PySem.W.Frag} (hn : l.most = some 63) (hdf : d.params.defaults = [])
    (hY : ∀ (w : World) (h : Heap), YP w h → (K w.params).In h)
    (F : ∀ (w : World) (mg : Str → Option Value) (fa : Addr) (h : Heap), (K w.params).In h → h.Ns mainGlobals mg → mg d.name = some (.ref fa) →
      ∃ fd : FuncData, (∀ (s : Shared) (u : Value), BindsTo s fd ⟨[u], []⟩ [("_law_script", u)]) ∧ ∀ base : Heap, (K w.params).In base → base.Ns mainGlobals mg → FnOk l.prog w (K w.params) mg base (CX1 l.prog w) 5 fa fd ["_law_script"] (spUp (K w.params) sp_law0)) :
    PySem.W.WalkO q loose XP YP l.row.toRowW d [] (fun f vs => PySem.call f vs) :=
  L2.walk_of (n := 63) (k := 5) (x := "_law_script") (CX := fun w => CX1 l.prog w) (sp := fun w => spUp (K w.params) sp_law0) hn (by decide) hdf ⟨rfl, by decide, by decide⟩ hY F (fun w H a ns hl hO hS => law_start hl hS) fun _ _ _ _ _ z => law_none z
end Lw
open PySem PySem.W PyProof.Rows
set_option maxRecDepth 100000 in
set_option maxHeartbeats 0 in
theorem PySem.Challenge.cw_hall_k12_book_refusals_holds : PySem.Challenge.rw_hall_k12_book_refusals.Holds := by
  w_on; o_law; k_head; (case hw => w_witness2)
  k_fill
  refine Lw.walk (l := PySem.Challenge.rw_hall_k12_book_refusals) rfl rfl (fun w h Y => PySem.W.kIn_of Y) ?F
  case F =>
    intro w mg fa h KX G hmg
    refine' Lw.all_mk KX G hmg ?x_Book ?u1_Book ?u2_Book ?u3_Book ?u4_Book ?u5_Book ?u6_Book ?na_Book_marks ?na_Book_most ?a0 ?l0 ?c0 ?k0 ?a1 ?l1 ?c1 ?k1 ?a2 ?n2 ?l2 ?c2 ?k2 ?a3 ?n3 ?l3 ?c3 ?k3 ?a4 ?l4 ?c4 ?k4 ?a5 ?n5 ?l5 ?c5 ?k5 ?a6 ?n6 ?l6 ?c6 ?k6 ?a7 ?l7 ?c7 ?k7 ?a8 ?l8 ?c8 ?k8 ?a9 ?l9 ?c9 ?k9 ?a10 ?l10 ?c10 ?k10 ?a11 ?l11 ?c11 ?k11 ?a12 ?l12 ?c12 ?k12 ?a13 ?l13 ?c13 ?k13 ?x_NoName ?y_NoName ?x_NoMark ?y_NoMark ?x_Twice ?y_Twice ?x_Missing ?y_Missing ?x_HallError ?y_HallError ?x_Apart ?y_Apart ?x_Few ?y_Few ?x_NoRow ?y_NoRow ?x_NoWork ?y_NoWork ?z_isinstance ?z_bool ?z_int ?z_all ?z_str ?z_len ?z_range ?z_sorted ?z_ValueError ?qa_LONGEST_NAME ?g1_NoName ?g2_NoName ?g3_NoName ?g4_NoName ?g5_NoName ?v_NoName ?s_NoName_HallError ?s_NoName_NoName ?s_NoName_NoMark ?s_NoName_Twice ?s_NoName_Missing ?s_NoName_Apart ?s_NoName_Few ?s_NoName_NoRow ?s_NoName_NoWork ?g1_NoMark ?g2_NoMark ?g3_NoMark ?g4_NoMark ?g5_NoMark ?v_NoMark ?s_NoMark_HallError ?s_NoMark_NoName ?s_NoMark_NoMark ?s_NoMark_Twice ?s_NoMark_Missing ?s_NoMark_Apart ?s_NoMark_Few ?s_NoMark_NoRow ?s_NoMark_NoWork ?g1_Twice ?g2_Twice ?g3_Twice ?g4_Twice ?g5_Twice ?v_Twice ?s_Twice_HallError ?s_Twice_NoName ?s_Twice_NoMark ?s_Twice_Twice ?s_Twice_Missing ?s_Twice_Apart ?s_Twice_Few ?s_Twice_NoRow ?s_Twice_NoWork ?g1_Missing ?g2_Missing ?g3_Missing ?g4_Missing ?g5_Missing ?v_Missing ?s_Missing_HallError ?s_Missing_NoName ?s_Missing_NoMark ?s_Missing_Twice ?s_Missing_Missing ?s_Missing_Apart ?s_Missing_Few ?s_Missing_NoRow ?s_Missing_NoWork
    (case x_Book => k_is)
    (case x_NoName => k_is)
    (case x_NoMark => k_is)
    (case x_Twice => k_is)
    (case x_Missing => k_is)
    (case x_HallError => k_is)
    (case x_Apart => k_is)
    (case x_Few => k_is)
    (case x_NoRow => k_is)
    (case x_NoWork => k_is)
    (case u1_Book => k_is)
    (case u2_Book => k_is)
    (case u3_Book => k_is)
    (case u4_Book => k_is)
    (case u5_Book => k_is)
    (case u6_Book => k_is)
    (case na_Book_marks => k_is)
    (case na_Book_most => k_is)
    (case a0 => k_is)
    (case l0 => k_is)
    (case c0 => k_is)
    (case k0 => k_is)
    (case a1 => k_is)
    (case l1 => k_is)
    (case c1 => k_is)
    (case k1 => k_is)
    (case a2 => k_is)
    (case n2 => k_is)
    (case l2 => k_is)
    (case c2 => k_is)
    (case k2 => k_is)
    (case a3 => k_is)
    (case n3 => k_is)
    (case l3 => k_is)
    (case c3 => k_is)
    (case k3 => k_is)
    (case a4 => k_is)
    (case l4 => k_is)
    (case c4 => k_is)
    (case k4 => k_is)
    (case a5 => k_is)
    (case n5 => k_is)
    (case l5 => k_is)
    (case c5 => k_is)
    (case k5 => k_is)
    (case a6 => k_is)
    (case n6 => k_is)
    (case l6 => k_is)
    (case c6 => k_is)
    (case k6 => k_is)
    (case a7 => k_is)
    (case l7 => k_is)
    (case c7 => k_is)
    (case k7 => k_is)
    (case a8 => k_is)
    (case l8 => k_is)
    (case c8 => k_is)
    (case k8 => k_is)
    (case a9 => k_is)
    (case l9 => k_is)
    (case c9 => k_is)
    (case k9 => k_is)
    (case a10 => k_is)
    (case l10 => k_is)
    (case c10 => k_is)
    (case k10 => k_is)
    (case a11 => k_is)
    (case l11 => k_is)
    (case c11 => k_is)
    (case k11 => k_is)
    (case a12 => k_is)
    (case l12 => k_is)
    (case c12 => k_is)
    (case k12 => k_is)
    (case a13 => k_is)
    (case l13 => k_is)
    (case c13 => k_is)
    (case k13 => k_is)
    (case y_NoName => k_exc)
    (case y_NoMark => k_exc)
    (case y_Twice => k_exc)
    (case y_Missing => k_exc)
    (case y_HallError => k_exc)
    (case y_Apart => k_exc)
    (case y_Few => k_exc)
    (case y_NoRow => k_exc)
    (case y_NoWork => k_exc)
    (case z_isinstance => k_is)
    (case z_bool => k_is)
    (case z_int => k_is)
    (case z_all => k_is)
    (case z_str => k_is)
    (case z_len => k_is)
    (case z_range => k_is)
    (case z_sorted => k_is)
    (case z_ValueError => k_is)
    (case qa_LONGEST_NAME => k_is)
    (case g1_NoName => k_is)
    (case g2_NoName => k_is)
    (case g3_NoName => k_is)
    (case g4_NoName => k_is)
    (case g5_NoName => k_is)
    (case v_NoName => k_is)
    (case s_NoName_HallError => first | exact rfl | k_is)
    (case s_NoName_NoName => first | exact rfl | k_is)
    (case s_NoName_NoMark => first | exact rfl | k_is)
    (case s_NoName_Twice => first | exact rfl | k_is)
    (case s_NoName_Missing => first | exact rfl | k_is)
    (case s_NoName_Apart => first | exact rfl | k_is)
    (case s_NoName_Few => first | exact rfl | k_is)
    (case s_NoName_NoRow => first | exact rfl | k_is)
    (case s_NoName_NoWork => first | exact rfl | k_is)
    (case g1_NoMark => k_is)
    (case g2_NoMark => k_is)
    (case g3_NoMark => k_is)
    (case g4_NoMark => k_is)
    (case g5_NoMark => k_is)
    (case v_NoMark => k_is)
    (case s_NoMark_HallError => first | exact rfl | k_is)
    (case s_NoMark_NoName => first | exact rfl | k_is)
    (case s_NoMark_NoMark => first | exact rfl | k_is)
    (case s_NoMark_Twice => first | exact rfl | k_is)
    (case s_NoMark_Missing => first | exact rfl | k_is)
    (case s_NoMark_Apart => first | exact rfl | k_is)
    (case s_NoMark_Few => first | exact rfl | k_is)
    (case s_NoMark_NoRow => first | exact rfl | k_is)
    (case s_NoMark_NoWork => first | exact rfl | k_is)
    (case g1_Twice => k_is)
    (case g2_Twice => k_is)
    (case g3_Twice => k_is)
    (case g4_Twice => k_is)
    (case g5_Twice => k_is)
    (case v_Twice => k_is)
    (case s_Twice_HallError => first | exact rfl | k_is)
    (case s_Twice_NoName => first | exact rfl | k_is)
    (case s_Twice_NoMark => first | exact rfl | k_is)
    (case s_Twice_Twice => first | exact rfl | k_is)
    (case s_Twice_Missing => first | exact rfl | k_is)
    (case s_Twice_Apart => first | exact rfl | k_is)
    (case s_Twice_Few => first | exact rfl | k_is)
    (case s_Twice_NoRow => first | exact rfl | k_is)
    (case s_Twice_NoWork => first | exact rfl | k_is)
    (case g1_Missing => k_is)
    (case g2_Missing => k_is)
    (case g3_Missing => k_is)
    (case g4_Missing => k_is)
    (case g5_Missing => k_is)
    (case v_Missing => k_is)
    (case s_Missing_HallError => first | exact rfl | k_is)
    (case s_Missing_NoName => first | exact rfl | k_is)
    (case s_Missing_NoMark => first | exact rfl | k_is)
    (case s_Missing_Twice => first | exact rfl | k_is)
    (case s_Missing_Missing => first | exact rfl | k_is)
    (case s_Missing_Apart => first | exact rfl | k_is)
    (case s_Missing_Few => first | exact rfl | k_is)
    (case s_Missing_NoRow => first | exact rfl | k_is)
    (case s_Missing_NoWork => first | exact rfl | k_is)
#print axioms PySem.Challenge.cw_hall_k12_book_refusals_holds
